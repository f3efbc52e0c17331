import copy
import unittest
from itertools import combinations

from helper import (all_troops, counted_going_on, counted_less, counted_levels, counted_state, fork, names_of, net_of,
                    rich_webs, ring_nets, small_webs, told_by, web_of)

from unfoldnet.grown import Grown
from unfoldnet.ranks import less, levels
from unfoldnet.weaves import woven
from unfoldnet.webs import Web


def many_webs():
    return (list(rich_webs(8)) + list(small_webs("ab", 2, 3, 5)) + list(small_webs("abc", 3, 1993, 6))
            + [Grown(net) for net in ring_nets(30)])


def few_troops(web, most):
    """At most about so many of the troops of a web, from all over them."""
    troops = all_troops(web)
    return troops[::max(1, len(troops) // most)]


# Two moves each of which gives back what the other takes, too, so that the one must stand behind the other:
# 0 x, 1 y, 2 y behind x, 3 x behind y; 4 join behind 2, 5 join behind 3.
TURNS = "a b p; x: a p > c p; y: b p > d p; join: c d > e"
TURNS_STEPS = [("x", [0, 2]), ("y", [1, 2]), ("y", [1, 4]), ("x", [0, 6]), ("join", [3, 7]), ("join", [5, 9])]

# y stands behind or ahead of x, and of z: 0 x, 1 y, 2 z, 3 y behind x, 4 z behind 3, 5 y behind x and z.
MIDDLE = "a b c p q; x: a p > d p; y: b p q > e p q; z: c q > f q"
MIDDLE_STEPS = [("x", [0, 3]), ("y", [1, 3, 4]), ("z", [2, 4]), ("y", [1, 4, 6]), ("z", [2, 14]), ("y", [1, 6, 11])]


class Levels(unittest.TestCase):
    def test_of_some_troops(self):
        web = fork()
        self.assertEqual(levels(web, [0]), [[0]])
        self.assertEqual(levels(web, [0, 2]), [[0, 2]])
        self.assertEqual(levels(web, [0, 2, 3]), [[0, 2], [3]])
        self.assertEqual(levels(web, [1, 2, 4]), [[1, 2], [4]])
        self.assertEqual(levels(web, [0, 2, 3, 5]), [[0, 2], [3], [5]])

    def test_the_troop_without_occurrences(self):
        self.assertEqual(levels(fork(), []), [])
        self.assertEqual(levels(Web(net_of("")), []), [])

    def test_next_to_the_greatest_level_of_a_cause(self):
        # join takes from the first level and from the third one.
        steps = [("go", [0]), ("on", [1]), ("up", [3]), ("end", [4]), ("join", [2, 5])]
        web = web_of("a b; go: a > c; on: b > d; up: d > e; end: e > f; join: c f > g", steps)
        self.assertEqual(levels(web, [0, 1, 2, 3, 4]), [[0, 1], [2], [3], [4]])
        self.assertEqual(levels(web, [1, 2, 3]), [[1], [2], [3]])

    def test_levels_do_not_follow_the_numbers(self):
        steps = [("go", [0]), ("up", [2]), ("on", [1])]
        web = web_of("a b; go: a > c; up: c > d; on: b > e", steps)
        self.assertEqual(levels(web, [0, 1, 2]), [[0, 2], [1]])

    def test_a_spot_of_the_start_beside_one_that_was_given(self):
        for first in ("a", "z"):
            web = web_of(f"{first} m; go: m > n; join: {first} n > o", [("go", [1 if first == "a" else 0])])
            web.come("join", [2, 0 if first == "a" else 1])
            self.assertEqual(levels(web, [0, 1]), [[0], [1]])

    def test_kinds(self):
        told = levels(fork(), [0, 2, 3])
        self.assertEqual((type(told), [type(level) for level in told]), (list, [list, list]))

    def test_lists_stay_the_asker_s_own(self):
        web = fork()
        troop = [0, 2, 3]
        told = levels(web, troop)
        told[0].append(9)
        told.append([7])
        self.assertEqual(troop, [0, 2, 3])
        self.assertEqual(levels(web, troop), [[0, 2], [3]])
        levels(web, []).append([7])
        self.assertEqual(levels(web, []), [])
        single = [2]
        levels(web, single)[0].append(9)
        self.assertEqual((single, levels(web, [2])), ([2], [[2]]))
        self.assertEqual(told_by(web), told_by(fork()))

    def test_a_long_chain(self):
        web = Web(net_of("a; stay: a > a"))
        for number in range(200):
            web.come("stay", [number])
        self.assertEqual(levels(web, list(range(200))), [[number] for number in range(200)])
        self.assertTrue(less(web, list(range(199)), list(range(200))))

    def test_all_troops_as_counted(self):
        for web in many_webs():
            for troop in all_troops(web):
                self.assertEqual(levels(web, troop), counted_levels(web, troop), (web.occurrences(), troop))


class Less(unittest.TestCase):
    def lesser(self, web, one, other):
        self.assertIs(less(web, one, other), True)
        self.assertIs(less(web, other, one), False)

    def test_fewer_occurrences(self):
        web = fork()
        self.lesser(web, [], [0])
        self.lesser(web, [2], [0, 2])
        # mid is the last of the names, but one is fewer than two.
        self.lesser(web, [2], [1, 2])
        self.lesser(web, [0, 2], [1, 2, 4])

    def test_as_many_and_lesser_names(self):
        web = fork()
        self.lesser(web, [1], [0])
        self.lesser(web, [0], [2])
        # join, left, mid against jump, lean, mid: told by the first of the sorted names.
        self.lesser(web, [0, 2, 3], [1, 2, 4])

    def test_names_are_sorted_whatever_the_order_of_the_occurrences(self):
        # The troop of z and a behind it against that of b and c behind it.
        web = web_of("p q; z: p > r; a: r > s; b: q > t; c: t > u", [("b", [1]), ("c", [2]), ("z", [0]), ("a", [4])])
        self.lesser(web, [2, 3], [0, 1])
        self.lesser(web, [0], [2])

    def test_a_move_counts_as_often_as_it_occurs(self):
        web = web_of("p q; a: p > p; b: q > q", [("a", [0]), ("a", [2]), ("b", [1]), ("b", [4]), ("a", [3])])
        self.lesser(web, [0, 1, 2], [0, 2, 3])
        self.lesser(web, [0, 1, 4], [0, 1, 2])

    def test_names_of_which_one_begins_another_one(self):
        steps = [("ab", [1]), ("a", [0]), ("b", [2]), ("c", [3])]
        web = web_of("p q; a: p > r; c: r > s; ab: q > t; b: t > u", steps)
        self.lesser(web, [1], [0])
        # a c against ab b: names, and not all their letters in a row.
        self.lesser(web, [1, 3], [0, 2])
        # a ab against a c.
        self.lesser(web, [0, 1], [1, 3])

    def test_the_first_unlike_level_has_lesser_names(self):
        web = web_of(TURNS, TURNS_STEPS)
        self.lesser(web, [0, 2], [1, 3])
        self.lesser(web, [0, 2, 4], [1, 3, 5])

    def test_the_first_unlike_level_is_shorter(self):
        web = web_of(MIDDLE, MIDDLE_STEPS)
        self.assertEqual(levels(web, [0, 3, 4]), [[0], [3], [4]])
        self.assertEqual(levels(web, [0, 2, 5]), [[0, 2], [5]])
        self.lesser(web, [0, 3, 4], [0, 2, 5])

    def test_a_shorter_level_goes_ahead_of_lesser_names(self):
        # The first levels are n and a z: the shorter one is less, though its name is the greater.
        steps = [("n", [1, 3, 4]), ("a", [0, 6]), ("z", [2, 7]), ("a", [0, 3]), ("z", [2, 4]), ("n", [1, 13, 15])]
        web = web_of("i j k p q; a: i p > i p; n: j p q > j p q; z: k q > k q", steps)
        self.assertEqual(levels(web, [0, 1, 2]), [[0], [1, 2]])
        self.assertEqual(levels(web, [3, 4, 5]), [[3, 4], [5]])
        self.lesser(web, [0, 1, 2], [3, 4, 5])

    def test_names_of_a_level_are_sorted(self):
        # b came ahead of a: the first levels are a b and a c all the same.
        steps = [("b", [0, 3]), ("a", [2]), ("c", [1, 5]), ("c", [1, 3]), ("b", [0, 10])]
        web = web_of("i j k p; a: k > k; b: i p > i p; c: j p > j p", steps)
        self.assertEqual(levels(web, [0, 1, 2]), [[0, 1], [2]])
        self.assertEqual(levels(web, [1, 3, 4]), [[1, 3], [4]])
        self.lesser(web, [0, 1, 2], [1, 3, 4])

    def test_a_later_level_decides(self):
        steps = [("go", [2, 3]), ("x", [0, 4, 5]), ("y", [1, 4, 5]), ("y", [1, 7, 8]), ("x", [0, 10, 11])]
        web = web_of("s a b p; go: s p > p t; x: a p t > c p t; y: b p t > d p t", steps)
        self.assertEqual(levels(web, [0, 1, 3]), [[0], [1], [3]])
        self.assertEqual(levels(web, [0, 2, 4]), [[0], [2], [4]])
        self.lesser(web, [0, 1, 3], [0, 2, 4])

    def test_of_one_and_the_same(self):
        web = fork()
        for troop in all_troops(web):
            self.assertIs(less(web, troop, list(troop)), False)
            self.assertIs(less(web, troop, troop), False)

    def test_the_lists_handed_in_stay(self):
        web = web_of(MIDDLE, MIDDLE_STEPS)
        before = copy.deepcopy(told_by(web))
        one, other = [0, 3, 4], [0, 2, 5]
        self.assertEqual([less(web, one, other), less(web, one, other)], [True, True])
        self.assertEqual((one, other), ([0, 3, 4], [0, 2, 5]))
        self.assertEqual(told_by(web), before)

    def test_each_two_troops_as_counted(self):
        ways = set()
        for web in many_webs():
            troops = few_troops(web, 40)
            for one in troops:
                self.assertIs(less(web, one, one), False)
                for other in troops:
                    place = (web.occurrences(), one, other)
                    self.assertIs(less(web, one, other), counted_less(web, one, other), place)
            for one, other in combinations(troops, 2):
                self.assertEqual(less(web, one, other) + less(web, other, one), 1, (web.occurrences(), one, other))
                ways.add((len(one) == len(other), names_of(web, one) == names_of(web, other)))
        self.assertEqual(ways, {(False, False), (True, False), (True, True)})

    def test_less_than_the_lesser(self):
        for web in rich_webs(8):
            troops = few_troops(web, 14)
            for one in troops:
                for other in troops:
                    for third in troops:
                        if less(web, one, other) and less(web, other, third):
                            self.assertTrue(less(web, one, third), (web.occurrences(), one, other, third))

    def test_the_lesser_of_two_with_one_state_stays_the_lesser(self):
        ways = set()
        webs = list(rich_webs(12)) + [web_of(TURNS, TURNS_STEPS), web_of(MIDDLE, MIDDLE_STEPS)]
        for web in webs + [Grown(net) for net in ring_nets(40)]:
            by_state = {}
            for troop in few_troops(web, 200):
                by_state.setdefault(counted_state(web, troop), []).append((troop, counted_going_on(web, troop)))
            for troops in by_state.values():
                for (one, firsts), (other, seconds) in combinations(troops, 2):
                    for longer, others in self.gone_on_alike(web, one, firsts, other, seconds):
                        place = (web.occurrences(), one, other, longer, others)
                        self.assertIs(less(web, longer, others), less(web, one, other), place)
                        self.assertIs(less(web, others, longer), less(web, other, one), place)
                        ways.add((len(one) == len(other), names_of(web, one) == names_of(web, other)))
        self.assertEqual(ways, {(False, False), (True, False), (True, True)})

    def gone_on_alike(self, web, one, firsts, other, seconds):
        """The two troops, each with an occurrence that goes on from it, of one move."""
        steps = web.occurrences()
        return [(sorted(one + [first]), sorted(other + [second])) for first in firsts for second in seconds
                if steps[first][0] == steps[second][0]]


class WovenWebs(unittest.TestCase):
    def test_levels_of_a_woven_web(self):
        web = woven(net_of(MIDDLE), ["x", "z", "y"])
        self.assertEqual(levels(web, [0, 1, 2]), [[0, 1], [2]])
        self.assertTrue(less(web, [0], [1]))


if __name__ == "__main__":
    unittest.main()
