import copy
import unittest
from itertools import combinations, product

from helper import (FORK, all_troops, counted_beside, counted_cut, counted_going_on, counted_row, counted_state, fork,
                    is_troop, net_of, outcome_of, parts_of, rich_webs, ring_nets, rows_to_play, small_webs,
                    some_orders, told_by, web_again, web_of)

from unfoldnet.cuts import cut, followed, going_on, state_of
from unfoldnet.grown import Grown
from unfoldnet.weaves import woven
from unfoldnet.webs import Web

# All troops of the web of FORK, with the cut of each, its state, and what goes on from it.
# The spots: 0 a, 1 b, 2 c of left, 3 d of lean, 4 e of mid, 5 a of join, 6 f of jump, 7 g of again.
FORK_TROOPS = [
    ([], [0, 1], ("a", "b"), [0, 1, 2]),
    ([0], [1, 2], ("b", "c"), [2]),
    ([1], [1, 3], ("b", "d"), [2]),
    ([2], [0, 4], ("a", "e"), [0, 1]),
    ([0, 2], [2, 4], ("c", "e"), [3]),
    ([1, 2], [3, 4], ("d", "e"), [4]),
    ([0, 2, 3], [5], ("a",), [5]),
    ([1, 2, 4], [6], ("f",), []),
    ([0, 2, 3, 5], [7], ("g",), []),
]


def many_webs():
    return (list(rich_webs(8)) + list(small_webs("ab", 2, 3, 5)) + list(small_webs("abc", 3, 1993, 6))
            + [Grown(net) for net in ring_nets(24)])


def counted_followed(web, row):
    """What following a row comes to: a refusal as in play, None, or a troop."""
    outcome = counted_row(*parts_of(web.net()), row)
    if isinstance(outcome, tuple):
        return outcome
    troop = []
    for move in row:
        fitting = [one for one in counted_going_on(web, troop) if web.occurrences()[one][0] == move]
        if not fitting:
            return None
        troop = sorted(troop + fitting)
    return troop


class Troops(unittest.TestCase):
    def test_each_troop_of_a_web(self):
        web = fork()
        self.assertEqual(sorted(all_troops(web)), sorted(troop for troop, *rest in FORK_TROOPS))
        for troop, spots, state, more in FORK_TROOPS:
            with self.subTest(troop):
                self.assertEqual(cut(web, troop), spots)
                self.assertEqual(state_of(web, troop), state)
                self.assertEqual(going_on(web, troop), more)

    def test_a_web_without_occurrences(self):
        for text, spots, state in (("", [], ()), ("b a", [0, 1], ("a", "b")), ("; go: a > b", [], ())):
            web = Web(net_of(text))
            self.assertEqual((cut(web, []), state_of(web, []), going_on(web, [])), (spots, state, []))

    def test_what_may_come_but_is_not_there_does_not_go_on(self):
        web = Web(net_of(FORK))
        self.assertEqual(going_on(web, []), [])
        web.come("mid", [1])
        self.assertEqual((going_on(web, []), going_on(web, [0])), ([0], []))

    def test_a_bead_taken_and_given_back(self):
        web = web_of("a b; stay: a b > b", [("stay", [0, 1])])
        self.assertEqual((cut(web, [0]), state_of(web, [0]), going_on(web, [0])), ([2], ("b",), []))
        self.assertEqual((cut(web, []), state_of(web, []), going_on(web, [])), ([0, 1], ("a", "b"), [0]))

    def test_no_bead_is_left(self):
        web = web_of("a; end: a >", [("end", [0])])
        self.assertEqual((cut(web, [0]), state_of(web, [0]), going_on(web, [0])), ([], (), []))

    def test_a_state_is_sorted_by_places_and_a_cut_by_numbers(self):
        web = web_of("b z; go: b > a ab", [("go", [0])])
        self.assertEqual(cut(web, [0]), [1, 2, 3])
        self.assertEqual(state_of(web, [0]), ("a", "ab", "z"))

    def test_one_that_takes_a_spot_beside_the_cut_does_not_go_on(self):
        # join takes c of left and e of mid; behind left alone its second spot is not there.
        web = fork()
        self.assertNotIn(3, going_on(web, [0]))
        self.assertNotIn(3, going_on(web, [2]))
        self.assertIn(3, going_on(web, [0, 2]))

    def test_spots_given_by_another_web_s_part_stay_out(self):
        web = web_of("a; one: a > b; two: a > b; on: b > c", [("one", [0]), ("two", [0]), ("on", [1]), ("on", [2])])
        self.assertEqual((cut(web, [0]), going_on(web, [0])), ([1], [2]))
        self.assertEqual((cut(web, [1]), going_on(web, [1])), ([2], [3]))
        self.assertEqual((state_of(web, [0]), state_of(web, [1])), (("b",), ("b",)))

    def test_kinds(self):
        web = fork()
        self.assertEqual((type(cut(web, [0])), type(state_of(web, [0])), type(going_on(web, [0]))),
                         (list, tuple, list))

    def test_going_on_rises_though_spots_do_not(self):
        # The later spot in the cut has the earlier taker.
        web = web_of("a b; y: b > c; x: a > d", [("y", [1]), ("x", [0])])
        self.assertEqual(going_on(web, []), [0, 1])

    def test_lists_stay_the_asker_s_own(self):
        web = fork()
        before = copy.deepcopy(told_by(web))
        for troop, spots, state, more in FORK_TROOPS:
            handed = list(troop)
            for ask in (cut, going_on):
                told = ask(web, handed)
                told.append(99)
                told[0] = 98
                told.clear()
            state_of(web, handed)
            self.assertEqual(handed, troop)
            handed.append(5)
            self.assertEqual((cut(web, troop), state_of(web, troop), going_on(web, troop)), (spots, state, more))
        self.assertEqual(told_by(web), before)


class AllTroops(unittest.TestCase):
    def test_as_counted(self):
        for web in many_webs():
            for troop in all_troops(web):
                place = (web.occurrences(), troop)
                self.assertEqual(cut(web, troop), counted_cut(web, troop), place)
                self.assertEqual(state_of(web, troop), counted_state(web, troop), place)
                self.assertEqual(going_on(web, troop), counted_going_on(web, troop), place)

    def test_spots_of_a_cut_are_side_by_side_and_of_unlike_places(self):
        for web in list(rich_webs(8)) + list(small_webs("abc", 3, 1993, 6)):
            for troop in all_troops(web):
                spots = cut(web, troop)
                places = [web.spots()[spot][0] for spot in spots]
                self.assertEqual(len(places), len(set(places)), (web.occurrences(), troop))
                for one, other in combinations(spots, 2):
                    self.assertTrue(counted_beside(web, one, other), (web.occurrences(), troop))

    def test_every_order_that_keeps_causes_can_be_played(self):
        several = 0
        for web in many_webs():
            moves, start = parts_of(web.net())
            for troop in all_troops(web):
                rows = some_orders(web, troop, 30)
                several += len(rows) > 1
                for row in rows:
                    states = counted_row(moves, start, row)
                    self.assertIsInstance(states, list, (web.occurrences(), troop, row))
                    self.assertEqual(states[-1], state_of(web, troop), (web.occurrences(), troop, row))
        self.assertGreater(several, 100)

    def test_a_troop_with_one_that_goes_on_is_a_troop(self):
        for web in list(rich_webs(8)) + list(small_webs("abc", 3, 1993, 6)):
            for troop in all_troops(web):
                for one in going_on(web, troop):
                    self.assertNotIn(one, troop)
                    self.assertTrue(is_troop(web, sorted(troop + [one])), (web.occurrences(), troop, one))

    def test_asked_again(self):
        for web in rich_webs(8):
            troops = all_troops(web)
            first = [(cut(web, troop), state_of(web, troop), going_on(web, troop)) for troop in troops]
            again = [(cut(web, troop), state_of(web, troop), going_on(web, troop)) for troop in reversed(troops)]
            self.assertEqual(first, again[::-1])
            self.assertEqual(told_by(web), told_by(web_again(web)))

    def test_a_long_chain(self):
        web = Web(net_of("a b; stay: a > a; turn: b > b"))
        for number in range(100):
            web.come("stay", [2 * number])
            web.come("turn", [2 * number + 1])
        self.assertEqual(cut(web, list(range(200))), [200, 201])
        self.assertEqual(cut(web, list(range(0, 198, 2))), [1, 198])
        self.assertEqual(going_on(web, list(range(0, 198, 2))), [1, 198])


class Followed(unittest.TestCase):
    def follows(self, web, row, outcome):
        with self.subTest(row):
            kept = list(row)
            told = outcome_of(lambda: followed(web, row))
            self.assertEqual((told, type(told)), (outcome, type(outcome)))
            self.assertEqual(row, kept)

    def test_rows_that_the_web_has(self):
        web = fork()
        self.follows(web, ["left"], [0])
        self.follows(web, ["mid", "left"], [0, 2])
        self.follows(web, ["left", "mid", "join"], [0, 2, 3])
        self.follows(web, ["mid", "left", "join", "again"], [0, 2, 3, 5])
        self.follows(web, ["mid", "lean", "jump"], [1, 2, 4])

    def test_the_row_without_moves(self):
        self.follows(fork(), [], [])
        self.follows(Web(net_of("")), [], [])
        self.follows(Web(net_of("a; go: a > b")), [], [])

    def test_rows_that_the_web_has_not(self):
        web = fork()
        self.follows(web, ["again"], None)
        self.follows(web, ["mid", "again"], None)
        self.follows(web, ["left", "mid", "join", "left"], None)
        self.follows(Web(net_of(FORK)), ["left"], None)

    def test_none_though_a_later_move_has_an_occurrence(self):
        # Behind again no spot is left but b and g; mid is there all the same.
        self.follows(fork(), ["again", "mid"], None)

    def test_another_occurrence_of_the_move_does_not_do(self):
        web = web_of("a; one: a > b; two: a > b; on: b > c", [("one", [0]), ("two", [0]), ("on", [2])])
        self.follows(web, ["two", "on"], [1, 2])
        self.follows(web, ["one", "on"], None)
        self.follows(web, ["one"], [0])

    def test_refused(self):
        web = fork()
        self.follows(web, ["nowhere"], ("NoMove", 0))
        self.follows(web, ["left", "a"], ("NoMove", 1))
        self.follows(web, ["left", "mid", "GO"], ("NoMove", 2))
        self.follows(web, ["join"], ("Held", 0))
        self.follows(web, ["left", "left"], ("Held", 1))
        self.follows(web, ["mid", "left", "join", "mid"], ("Held", 3))

    def test_the_first_refusal_is_the_row_s(self):
        web = fork()
        self.follows(web, ["left", "lean", "nowhere"], ("Held", 1))
        self.follows(web, ["left", "nowhere", "lean"], ("NoMove", 1))
        self.follows(web, ["nowhere", "join"], ("NoMove", 0))

    def test_a_refusal_goes_ahead_of_none(self):
        web = fork()
        self.follows(web, ["again", "nowhere"], ("NoMove", 1))
        self.follows(web, ["again", "left"], ("Held", 1))
        self.follows(web, ["mid", "again", "join", "nowhere"], ("Held", 2))
        self.follows(Web(net_of(FORK)), ["left", "mid", "join", "left", "left"], ("Held", 4))

    def test_a_grown_web_behind_a_stop(self):
        web = Grown(net_of("a; go: a > b; back: b > a"))
        self.follows(web, ["go", "back"], [0, 1])
        self.follows(web, ["go", "back", "go"], None)
        self.follows(web, ["go", "back", "back"], ("Held", 2))

    def test_a_woven_web(self):
        net = net_of(FORK)
        web = woven(net, ["mid", "left", "join"])
        self.follows(web, ["left", "mid", "join"], [0, 1, 2])
        self.follows(web, ["left"], [1])
        self.follows(web, ["lean"], None)

    def test_sixty_moves(self):
        net = net_of("a b; stay: a > a; turn: b > b")
        row = ["stay", "turn"] * 30
        web = woven(net, row)
        self.follows(web, row, list(range(60)))
        self.follows(web, ["turn"] * 30 + ["stay"] * 30, list(range(60)))
        self.follows(web, ["turn"] * 31 + ["stay"] * 29, None)

    def test_lists_stay_the_asker_s_own(self):
        web = fork()
        row = ["mid", "left"]
        troop = followed(web, row)
        row.append("join")
        troop.append(7)
        self.assertEqual(followed(web, ["mid", "left"]), [0, 2])
        followed(web, []).append(7)
        self.assertEqual(followed(web, []), [])
        self.assertEqual(told_by(web), told_by(fork()))

    def test_all_short_rows_as_counted(self):
        kinds = set()
        webs = list(rich_webs(7))[::3] + list(small_webs("ab", 2, 41, 5)) + list(small_webs("abc", 3, 9973, 6))
        for web in webs:
            for size in range(4):
                for row in product(web.net().moves() + ["no"], repeat=size):
                    outcome = counted_followed(web, list(row))
                    self.assertEqual(outcome_of(lambda: followed(web, list(row))), outcome, (web.occurrences(), row))
                    kinds.add(outcome[0] if isinstance(outcome, tuple) else type(outcome))
        self.assertEqual(kinds, {"NoMove", "Held", type(None), list})

    def test_rows_of_grown_webs_as_counted(self):
        for net in ring_nets(24):
            web = Grown(net)
            for row in rows_to_play(net, 4)[:300]:
                self.assertEqual(followed(web, row), counted_followed(web, row), (web.occurrences(), row))


if __name__ == "__main__":
    unittest.main()
