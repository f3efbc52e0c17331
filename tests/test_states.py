import copy
import unittest
from itertools import combinations

from helper import (BARE_NETS, FORK, LARGE_NETS, RICH_NETS, ROUND, TWO_WAYS_NETS, counted_reach, counted_state,
                    counted_states, counted_steps, is_troop, last_state, net_of, nets_of_many_sorts, parts_of,
                    refusal_of, told_by, turned)

from unfoldnet.grown import Grown
from unfoldnet.nets import Net
from unfoldnet.states import all_states, holds, open_moves, row_to

# A bead goes by left or lean, another one by mid; then they meet.
MEET = "a b; left: a > c; lean: a > d; mid: b > e; join: c e > f; jump: d e > h; again: f > g"

# Nets with all their states, and how many moves the shortest row to each has.
TOLD = [
    ("", {(): 0}),
    ("b a", {("a", "b"): 0}),
    ("; go: a > b", {(): 0}),
    ("a; go: a b > c", {("a",): 0}),
    ("a; end: a >", {(): 1, ("a",): 0}),
    ("a; stay: a > a", {("a",): 0}),
    ("z b; go: b > a ab; on: z > y", {("a", "ab", "y"): 2, ("a", "ab", "z"): 1, ("b", "y"): 1, ("b", "z"): 0}),
    ("a; go: a > b; on: b > c; short: a > c; off: c > d; home: d > a",
     {("a",): 0, ("b",): 1, ("c",): 1, ("d",): 2}),
    (MEET, {("a", "b"): 0, ("a", "e"): 1, ("b", "c"): 1, ("b", "d"): 1, ("c", "e"): 2, ("d", "e"): 2, ("f",): 3,
            ("g",): 4, ("h",): 3}),
    # Of the two troops with b and d only that of go and on leads on to join without a stop.
    (TWO_WAYS_NETS[0], {("a", "c"): 0, ("a", "d"): 1, ("b", "c"): 1, ("b", "d"): 2, ("e", "f"): 3}),
    (TWO_WAYS_NETS[1], {("a", "c"): 0, ("a", "d"): 1, ("b",): 3, ("b", "c"): 1, ("b", "d"): 2}),
]

# Twelve beads that go, each by itself: as many states as a net may have.
MOST_STATES = Net([("m" + place, [place], []) for place in "abcdefghijkl"], list("abcdefghijkl"))

NO_PLACES = ("zz", "go", "", "A", "a b", "a1", " a", "muchtoolong", "aa")


def rising_tuples(places):
    """All rising tuples of these places."""
    return [state for size in range(len(places) + 1) for state in combinations(sorted(places), size)]


class AllStates(unittest.TestCase):
    def test_by_hand(self):
        for text, fewest in TOLD:
            with self.subTest(text):
                self.assertEqual(all_states(Grown(net_of(text))), sorted(fewest))

    def test_rising(self):
        self.assertEqual(all_states(Grown(net_of("z b; go: b > a ab; on: z > y"))),
                         [("a", "ab", "y"), ("a", "ab", "z"), ("b", "y"), ("b", "z")])
        self.assertEqual(all_states(Grown(net_of("b; go: b > a c; end: c >; over: a >"))),
                         [(), ("a",), ("a", "c"), ("b",), ("c",)])

    def test_as_played(self):
        for net in nets_of_many_sorts():
            told = all_states(Grown(net))
            self.assertEqual(told, sorted(counted_states(net)), parts_of(net))

    def test_kinds(self):
        told = all_states(Grown(net_of(FORK)))
        self.assertEqual((type(told), {type(state) for state in told}), (list, {tuple}))

    def test_as_many_as_may_be(self):
        told = all_states(Grown(MOST_STATES))
        self.assertEqual(told, sorted(rising_tuples("abcdefghijkl")))


class RowTo(unittest.TestCase):
    def leads(self, grown, state, fewest):
        self.assertEqual(last_state(self, grown.net(), row_to(grown, state), fewest), state)

    def test_by_hand(self):
        for text, fewest in TOLD:
            grown = Grown(net_of(text))
            for state in fewest:
                self.leads(grown, state, fewest[state])
        grown = Grown(net_of("a; go: a > b; on: b > c; short: a > c; off: c > d"))
        self.assertEqual(row_to(grown, ("d",)), ["short", "off"])
        self.assertEqual(row_to(Grown(net_of(MEET)), ("g",))[2:], ["join", "again"])

    def test_the_start_s_state(self):
        for net in nets_of_many_sorts():
            self.assertEqual(row_to(Grown(net), net.start()), [])

    def test_each_state_as_played(self):
        for net in nets_of_many_sorts():
            grown = Grown(net)
            for state, fewest in counted_reach(counted_steps(net), net.start()).items():
                self.leads(grown, state, fewest)

    def test_states_that_the_net_can_t_come_to(self):
        count = 0
        for net in nets_of_many_sorts():
            grown, states = Grown(net), counted_states(net)
            for state in rising_tuples(net.places())[:300]:
                if state not in states:
                    self.assertIsNone(row_to(grown, state), (parts_of(net), state))
                    self.assertIsNone(open_moves(grown, state), (parts_of(net), state))
                    count += 1
        self.assertGreater(count, 1000)

    def test_no_place_at_all(self):
        self.assertEqual(row_to(Grown(net_of("a; end: a >")), ()), ["end"])
        self.assertEqual(row_to(Grown(net_of("; go: a > b")), ()), [])
        self.assertEqual(row_to(Grown(net_of("")), ()), [])
        self.assertIsNone(row_to(Grown(net_of("a; stay: a > a")), ()))
        self.assertIsNone(row_to(Grown(net_of("a b")), ()))

    def test_part_of_a_state_and_more_than_one(self):
        grown = Grown(net_of("a b; go: a > c"))
        for state in (("a",), ("b",), ("c",), ("a", "b", "c"), ("a", "c")):
            self.assertIsNone(row_to(grown, state))
        self.assertEqual(row_to(grown, ("b", "c")), ["go"])

    def test_as_many_states_as_may_be(self):
        grown = Grown(MOST_STATES)
        for state in rising_tuples("abcdefghijkl")[::41]:
            self.leads(grown, state, 12 - len(state))


class Holds(unittest.TestCase):
    def held(self, grown, places, states):
        """Holds what is told of some places against all states."""
        handed = list(places)
        troop = holds(grown, handed)
        place = (parts_of(grown.net()), places, troop)
        self.assertEqual(handed, list(places), place)
        if troop is None:
            self.assertFalse([state for state in states if set(places) <= set(state)], place)
        else:
            self.assertIs(type(troop), list, place)
            self.assertEqual(troop, sorted(set(troop)), place)
            self.assertTrue(is_troop(grown, troop), place)
            self.assertEqual(set(troop) & set(grown.stops()), set(), place)
            self.assertLessEqual(set(places), set(counted_state(grown, troop)), place)
            self.assertIn(counted_state(grown, troop), states, place)

    def test_by_hand(self):
        grown = Grown(net_of(MEET))
        names = [move for move, spots in grown.occurrences()]
        for places, moves in ((["c", "e"], ["left", "mid"]), (["e", "d"], ["lean", "mid"]), (["a", "b"], []),
                              (["e", "a"], ["mid"]), (["f"], ["join", "left", "mid"]), (["h"], ["jump", "lean", "mid"]),
                              (["g"], ["again", "join", "left", "mid"]), (["b", "d", "b"], ["lean"])):
            self.assertEqual(sorted(names[one] for one in holds(grown, places)), moves)
        for places in (["c", "d"], ["a", "f"], ["f", "h"], ["a", "b", "c", "d", "e", "f", "g", "h"]):
            self.assertIsNone(holds(grown, places))

    def test_the_list_without_places(self):
        for net in nets_of_many_sorts():
            self.held(Grown(net), [], counted_states(net))
            self.assertIsNotNone(holds(Grown(net), []))

    def test_each_list_of_places(self):
        found = {True: 0, False: 0}
        for net in nets_of_many_sorts():
            if len(net.places()) <= 8:
                grown, states = Grown(net), counted_states(net)
                for places in rising_tuples(net.places()):
                    self.held(grown, places, states)
                    found[holds(grown, list(places)) is None] += 1
        self.assertGreater(min(found.values()), 500)

    def test_large_nets(self):
        for text in LARGE_NETS:
            net = net_of(text)
            grown, states = Grown(net), counted_states(net)
            for places in rising_tuples(net.places())[::7]:
                self.held(grown, places, states)

    def test_each_whole_state(self):
        # A state has all its own places: so a troop must be told.
        for net in nets_of_many_sorts():
            grown, states = Grown(net), counted_states(net)
            for state in states:
                self.held(grown, state, states)
                self.assertIsNotNone(holds(grown, list(state)), (parts_of(net), state))

    def test_places_in_any_order_and_twice(self):
        for text in RICH_NETS + TWO_WAYS_NETS:
            net = net_of(text)
            grown, states = Grown(net), counted_states(net)
            for places in [list(state) for state in rising_tuples(net.places()[:6])]:
                told = holds(grown, places)
                for other in (places[::-1], places + places, places[1:] + places[:1], places[-1:] + places):
                    self.held(grown, other, states)
                    self.assertEqual(holds(grown, other) is None, told is None)

    def test_places_that_never_have_a_bead(self):
        grown = Grown(net_of("a; go: a b > c; on: a > d"))
        for places in (["b"], ["c"], ["a", "b"], ["c", "d"], ["a", "d"]):
            self.assertIsNone(holds(grown, places))
        self.assertEqual((holds(grown, ["a"]), holds(grown, ["d"])), ([], [0]))


class OpenMoves(unittest.TestCase):
    def test_by_hand(self):
        grown = Grown(net_of(MEET))
        for state, moves in ((("a", "b"), ["lean", "left", "mid"]), (("b", "c"), ["mid"]), (("c", "e"), ["join"]),
                             (("a", "e"), ["lean", "left"]), (("f",), ["again"]), (("g",), []), (("h",), []),
                             (("a", "f"), None), ((), None), (("b",), None), (("a",), None)):
            self.assertEqual(open_moves(grown, state), moves)

    def test_each_state_as_played(self):
        for net in nets_of_many_sorts():
            grown = Grown(net)
            for state, steps in counted_steps(net).items():
                self.assertEqual(open_moves(grown, state), sorted(steps), (parts_of(net), state))

    def test_moves_of_stops_are_told_too(self):
        # Both moves of the start are stops, and that from b is one.
        grown = Grown(net_of("a; stay: a > a; rest: a > a; go: a > b; back: b > a"))
        self.assertEqual(grown.stops(), [1, 2, 3])
        self.assertEqual((open_moves(grown, ("a",)), open_moves(grown, ("b",))), (["go", "rest", "stay"], ["back"]))

    def test_no_place_at_all(self):
        self.assertEqual(open_moves(Grown(net_of("")), ()), [])
        self.assertEqual(open_moves(Grown(net_of("a; end: a >")), ()), [])
        self.assertEqual(open_moves(Grown(net_of("; go: a > b")), ()), [])
        self.assertIsNone(open_moves(Grown(net_of("a")), ()))

    def test_kinds(self):
        self.assertIs(type(open_moves(Grown(net_of(FORK)), ("a", "b"))), list)
        self.assertIs(type(open_moves(Grown(net_of(FORK)), ("f",))), list)


class Refused(unittest.TestCase):
    def refused(self, grown, texts):
        for ask in (lambda: row_to(grown, tuple(sorted(set(texts)))),
                    lambda: open_moves(grown, tuple(sorted(set(texts)))), lambda: holds(grown, list(texts))):
            self.assertEqual(refusal_of(ask), ("NoPlace", {}), texts)

    def test_by_itself(self):
        for text in BARE_NETS + (FORK, ROUND):
            grown = Grown(net_of(text))
            for no_place in NO_PLACES:
                self.refused(grown, [no_place])

    def test_beside_places(self):
        grown = Grown(net_of("a b; go: a > c; on: b > d"))
        for no_place in NO_PLACES:
            for places in (["a"], ["a", "b"], ["b", "c"], ["c", "a"], ["a", "b", "c", "d"], ["zz"]):
                self.refused(grown, places + [no_place])
                self.refused(grown, [no_place] + places)
                self.refused(grown, places + [no_place, no_place])

    def test_a_move_s_name_is_no_place(self):
        grown = Grown(net_of("a; go: a > b; b: b > c"))
        self.refused(grown, ["go"])
        self.assertEqual(row_to(grown, ("b",)), ["go"])

    def test_places_without_beads_are_places(self):
        grown = Grown(net_of("a; go: a b > c"))
        for places in (("b",), ("c",), ("b", "c"), ("a", "b")):
            self.assertIsNone(row_to(grown, places))
            self.assertIsNone(open_moves(grown, places))
            self.assertIsNone(holds(grown, list(places)))

    def test_a_place_of_another_net(self):
        one, other = Grown(net_of("a; go: a > b")), Grown(net_of("c; go: c > d"))
        self.refused(one, ["c"])
        self.refused(other, ["a"])
        self.assertEqual((row_to(one, ("b",)), row_to(other, ("d",))), (["go"], ["go"]))


def answers(grown):
    """All that the four functions tell of the states of a grown web."""
    states = all_states(grown)
    return (states, [row_to(grown, state) for state in states], [open_moves(grown, state) for state in states],
            [holds(grown, list(state)) for state in states])


class KeptApart(unittest.TestCase):
    def test_told_lists_changed_between(self):
        for text in RICH_NETS + TWO_WAYS_NETS + BARE_NETS:
            grown = Grown(net_of(text))
            before, web = copy.deepcopy(answers(grown)), copy.deepcopy((told_by(grown), grown.stops()))
            for turn in range(2):
                told = answers(grown)
                self.assertEqual(told, before)
                for one in told[1] + told[2] + told[3]:
                    one.append("z")
                    one[0] = "y"
                told[0].clear()
            self.assertEqual(answers(grown), before)
            self.assertEqual((told_by(grown), grown.stops()), web)

    def test_what_is_handed_in(self):
        grown = Grown(net_of(FORK))
        places = ["e", "c", "e"]
        told = holds(grown, places)
        kept = list(told)
        self.assertEqual(places, ["e", "c", "e"])
        places.clear()
        self.assertEqual(told, kept)
        self.assertEqual(holds(grown, ["e", "c", "e"]), kept)

    def test_grown_webs_by_turns(self):
        grown = [Grown(net_of(text)) for text in RICH_NETS + TWO_WAYS_NETS + (FORK, ROUND)]
        before = [copy.deepcopy(answers(one)) for one in grown]
        for turn in range(2):
            for one, told in reversed(list(zip(grown, before))):
                self.assertEqual(answers(one), told)

    def test_other_orders_of_moves_and_places(self):
        for net in nets_of_many_sorts():
            told = answers(Grown(net))
            for other in turned(net):
                self.assertEqual(answers(Grown(other)), told, parts_of(net))

    def test_the_net_stays_as_it_was(self):
        net = net_of(ROUND)
        before = copy.deepcopy(parts_of(net))
        answers(Grown(net))
        self.assertEqual((parts_of(net), counted_states(net)), (before, counted_states(net_of(ROUND))))


if __name__ == "__main__":
    unittest.main()
