import copy
import unittest
from itertools import combinations

from helper import (FORK, counted_beside, counted_causes, counted_clashes, counted_come, counted_comings,
                    counted_words, fork, grown_and_woven_webs, net_of, refusal_of, rich_webs, small_webs, told_by,
                    web_again, web_of)

from unfoldnet.relations import causes, clash_at, comings, relation, spots_beside
from unfoldnet.webs import Web


def many_webs():
    return (list(rich_webs(11)) + list(small_webs("ab", 2, 3, 6)) + list(small_webs("abc", 2, 61, 7))
            + list(small_webs("abc", 3, 1993, 7)) + grown_and_woven_webs(14))


class Causes(unittest.TestCase):
    def test_of_each(self):
        web = fork()
        told = [causes(web, one) for one in range(6)]
        self.assertEqual(told, [[], [], [], [0, 2], [1, 2], [0, 2, 3]])
        self.assertEqual([type(some) for some in told], [list] * 6)

    def test_a_spot_taken_by_another_makes_no_cause(self):
        web = web_of("a; one: a > b; two: a > b; on: b > c", [("one", [0]), ("two", [0]), ("on", [2])])
        self.assertEqual(causes(web, 2), [1])

    def test_a_cause_twice_over_is_told_once(self):
        steps = [("fork", [0]), ("right", [2]), ("left", [1]), ("join", [4, 3]), ("stay", [5])]
        web = web_of("a; fork: a > b c; left: b > d; right: c > e; join: d e > a; stay: a > a", steps)
        self.assertEqual(causes(web, 3), [0, 1, 2])
        self.assertEqual(causes(web, 4), [0, 1, 2, 3])

    def test_a_long_chain(self):
        web = Web(net_of("a; stay: a > a"))
        for number in range(150):
            web.come("stay", [number])
        self.assertEqual(causes(web, 149), list(range(149)))
        self.assertEqual(relation(web, 3, 149), "before")
        self.assertEqual(relation(web, 149, 3), "behind")

    def test_a_list_told_and_changed(self):
        web = fork()
        causes(web, 5).append(9)
        causes(web, 0).append(9)
        self.assertEqual([causes(web, 5), causes(web, 0)], [[0, 2, 3], []])


class Relation(unittest.TestCase):
    def test_the_five_words(self):
        web = fork()
        words = [[relation(web, one, other) for other in range(6)] for one in range(6)]
        self.assertEqual(words, [
            ["same", "clash", "beside", "before", "clash", "before"],
            ["clash", "same", "beside", "clash", "before", "clash"],
            ["beside", "beside", "same", "before", "before", "before"],
            ["behind", "clash", "behind", "same", "clash", "before"],
            ["clash", "behind", "behind", "clash", "same", "clash"],
            ["behind", "clash", "behind", "behind", "clash", "same"]])

    def test_two_that_take_the_same_spot_by_the_same_move(self):
        steps = [("one", [0]), ("two", [0]), ("join", [1, 2]), ("join", [1, 3])]
        web = web_of("a b; one: a > c; two: a > c; join: b c > d", steps)
        self.assertEqual(relation(web, 2, 3), "clash")
        self.assertIn(clash_at(web, 2, 3), [(2, 3, 1), (0, 1, 0)])


class ClashAt(unittest.TestCase):
    def test_of_some(self):
        web = fork()
        self.assertEqual(clash_at(web, 0, 1), (0, 1, 0))
        self.assertEqual(clash_at(web, 1, 0), (1, 0, 0))
        self.assertEqual(clash_at(web, 5, 1), (0, 1, 0))
        self.assertEqual(clash_at(web, 1, 5), (1, 0, 0))
        self.assertIn(clash_at(web, 3, 4), [(0, 1, 0), (3, 4, 4)])
        self.assertIs(type(clash_at(web, 0, 1)), tuple)

    def test_none(self):
        web = fork()
        for one, other in ((0, 0), (5, 5), (0, 2), (2, 0), (0, 5), (5, 0), (2, 4)):
            self.assertIsNone(clash_at(web, one, other))


class NoOccurrence(unittest.TestCase):
    def test_below_and_beyond(self):
        web = fork()
        for wrong in (-1, -6, -7, 6, 7, 1000):
            self.assertEqual(refusal_of(lambda: causes(web, wrong)), ("NoOccurrence", {}))
            for ask in (relation, clash_at):
                for one, other in ((wrong, 0), (0, wrong), (wrong, wrong), (wrong, 5), (5, wrong)):
                    self.assertEqual(refusal_of(lambda: ask(web, one, other)), ("NoOccurrence", {}), (one, other))

    def test_a_web_without_occurrences(self):
        web = Web(net_of("a b; go: a > c"))
        self.assertEqual(refusal_of(lambda: causes(web, 0)), ("NoOccurrence", {}))
        self.assertEqual(refusal_of(lambda: relation(web, 0, 0)), ("NoOccurrence", {}))
        self.assertEqual(refusal_of(lambda: clash_at(web, 0, 0)), ("NoOccurrence", {}))


class SpotsBeside(unittest.TestCase):
    def test_of_each_two(self):
        web = fork()
        # The spots: 0 a, 1 b, 2 c of left, 3 d of lean, 4 e of mid, 5 a of join, 6 f of jump, 7 g of again.
        beside = [pair for pair in combinations(range(8), 2) if spots_beside(web, *pair)]
        self.assertEqual(beside, [(0, 1), (0, 4), (1, 2), (1, 3), (2, 4), (3, 4)])

    def test_spots_of_one_giver(self):
        web = Web(net_of("a; fork: a > b c; on: b > d"))
        web.come("fork", [0])
        web.come("on", [1])
        self.assertIs(spots_beside(web, 1, 2), True)
        self.assertIs(spots_beside(web, 2, 1), True)
        self.assertIs(spots_beside(web, 2, 3), True)
        self.assertIs(spots_beside(web, 0, 2), False)
        self.assertIs(spots_beside(web, 3, 1), False)

    def test_one_and_the_same(self):
        web = fork()
        for spot in range(8):
            self.assertIs(spots_beside(web, spot, spot), False)

    def test_no_spot(self):
        web = fork()
        for wrong in (-1, -8, -9, 8, 9, 1000):
            for one, other in ((wrong, 0), (0, wrong), (wrong, wrong), (7, wrong), (wrong, 7)):
                self.assertEqual(refusal_of(lambda: spots_beside(web, one, other)), ("NoSpot", {}), (one, other))
        empty = Web(net_of(""))
        self.assertEqual(refusal_of(lambda: spots_beside(empty, 0, 0)), ("NoSpot", {}))


class Comings(unittest.TestCase):
    def test_step_by_step(self):
        web = Web(net_of(FORK))
        self.assertEqual(comings(web), [("again", (0,)), ("lean", (0,)), ("left", (0,)), ("mid", (1,))])
        web.come("mid", [1])
        self.assertEqual(comings(web), [("again", (0,)), ("lean", (0,)), ("left", (0,))])
        web.come("left", [0])
        self.assertEqual(comings(web), [("again", (0,)), ("join", (2, 3)), ("lean", (0,))])

    def test_spots_are_rising_though_their_places_are_not(self):
        web = Web(net_of("b z; go: b > a; join: a z > b"))
        web.come("go", [0])
        self.assertEqual(comings(web), [("join", (1, 2))])

    def test_rising_by_whole_numbers(self):
        web = Web(net_of("a; l: a > b c; m: a > b c; n: a > b c; o: a > b c; p: a > b c; q: a > b c; z: c b > d"))
        for move in "lmnopq":
            web.come(move, [0])
        self.assertEqual(comings(web), [("z", (number, number + 1)) for number in (1, 3, 5, 7, 9, 11)])

    def test_none_may_come(self):
        self.assertEqual(comings(Web(net_of(""))), [])
        self.assertEqual(comings(Web(net_of("a"))), [])
        self.assertEqual(comings(Web(net_of("; go: a > b"))), [])
        web = Web(net_of("a; end: a >"))
        web.come("end", [0])
        self.assertEqual(comings(web), [])

    def test_kinds(self):
        told = comings(Web(net_of(FORK)))
        self.assertIs(type(told), list)
        self.assertEqual({(type(coming), type(coming[0]), type(coming[1])) for coming in told}, {(tuple, str, tuple)})

    def test_a_list_told_and_changed(self):
        web = fork()
        told = comings(web)
        kept = list(told)
        told.append("x")
        told[0] = "y"
        self.assertEqual(comings(web), kept)
        self.assertEqual(told_by(web), told_by(fork()))


class AsCounted(unittest.TestCase):
    def test_each_two_occurrences(self):
        words = set()
        for web in many_webs():
            numbers = range(len(web.occurrences()))
            for one in numbers:
                self.assertEqual(causes(web, one), sorted(counted_causes(web, one)), web.occurrences())
                for other in numbers:
                    place = (web.net().start(), web.occurrences(), one, other)
                    word = relation(web, one, other)
                    self.assertEqual([word], counted_words(web, one, other), place)
                    clashes = counted_clashes(web, one, other)
                    self.assertIn(clash_at(web, one, other), clashes or [None], place)
                    words.add(word)
        self.assertEqual(words, {"same", "before", "behind", "clash", "beside"})

    def test_each_two_spots(self):
        for web in many_webs():
            numbers = range(len(web.spots()))
            for one in numbers:
                for other in numbers:
                    told = spots_beside(web, one, other)
                    self.assertIs(told, counted_beside(web, one, other), (web.occurrences(), one, other))

    def test_comings(self):
        for web in many_webs():
            self.assertEqual(comings(web), counted_comings(web), web.occurrences())

    def test_each_coming_told_does_come(self):
        for web in rich_webs(8):
            steps = web.occurrences()
            for move, spots in comings(web):
                fresh = web_again(web)
                self.assertEqual(fresh.come(move, list(spots)), len(steps))
                self.assertNotIn((move, spots), comings(fresh))
                self.assertEqual(counted_come(fresh, move, spots), [("Twice", {"number": len(steps)})])

    def test_asking_changes_nothing(self):
        for web in rich_webs(7):
            before = copy.deepcopy(told_by(web))
            first = comings(web)
            for one in range(len(web.occurrences())):
                causes(web, one)
                relation(web, one, 0)
                clash_at(web, one, 0)
            spots_beside(web, 0, 1 if len(web.spots()) > 1 else 0)
            self.assertEqual(told_by(web), before)
            self.assertEqual(comings(web), first)


if __name__ == "__main__":
    unittest.main()
