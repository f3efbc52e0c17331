import copy
import unittest

from helper import (LARGE_NETS, RICH_NETS, all_troops, counted, counted_clashes, counted_comings, counted_crowding,
                    counted_grown, counted_less, counted_own, counted_row, counted_state, counted_states, free_nets,
                    net_of, parts_of, refusal_of, ring_nets, small_nets, told_by)

from unfoldnet.cuts import going_on, state_of
from unfoldnet.errors import Crowded
from unfoldnet.grown import Grown
from unfoldnet.nets import Net
from unfoldnet.play import may
from unfoldnet.ranks import less
from unfoldnet.relations import comings
from unfoldnet.troops import own
from unfoldnet.webs import Web

# Grown webs told by hand: a net, its occurrences, and its stops with their partners.
TOLD = [
    # Nothing may come: nothing at all, no moves, no beads, a bead too few.
    ("", [], {}),
    ("b a", [], {}),
    ("; go: a > b", [], {}),
    ("a; go: a b > c", [], {}),
    # The state without beads is one like any other.
    ("a; end: a >", [("end", (0,))], {}),
    ("a; cease: a >; end: a >", [("cease", (0,)), ("end", (0,))], {1: 0}),
    # Back to the start's state, at once and by and by.
    ("a; stay: a > a", [("stay", (0,))], {0: None}),
    ("a b; swap: a b > b a", [("swap", (0, 1))], {0: None}),
    ("a; go: a > b; back: b > a", [("go", (0,)), ("back", (1,))], {1: None}),
    ("a c; go: a > b; back: b > a; on: c > d", [("go", (0,)), ("on", (1,)), ("back", (2,))], {2: None}),
    # To a state that has come: nothing stands behind a stop, and all stops have the first one as their partner.
    ("a; one: a > b; two: a > b; on: b > c", [("one", (0,)), ("two", (0,)), ("on", (1,))], {1: 0}),
    ("a; one: a > b; two: a > b; three: a > b", [("one", (0,)), ("three", (0,)), ("two", (0,))], {1: 0, 2: 0}),
    ("a; go: a > b; turn: b > c; back: c > b; end: c >",
     [("go", (0,)), ("turn", (1,)), ("back", (2,)), ("end", (2,))], {2: 0}),
    # The start's state goes ahead of all others: home is a stop without a partner.
    ("a; go: a > b; on: b > b; home: b > a", [("go", (0,)), ("home", (1,)), ("on", (1,))], {1: None, 2: 0}),
    # The troop of left and right has the state of both's own troop; but it is no own troop, so both is no stop.
    ("a b; left: a > c; right: b > d; both: a b > c d",
     [("both", (0, 1)), ("left", (0,)), ("right", (1,))], {}),
    # Fewer occurrences first, whatever the names.
    ("a b; z: a > c; y: b > d; b: c > e; a: e > f",
     [("y", (1,)), ("z", (0,)), ("b", (3,)), ("a", (4,))], {}),
    # As many: by all names of the own troop, not by the move's own; and by names, not by their letters in a row.
    ("p q; a: p > r; z: r > s; b: q > t; c: t > u", [("a", (0,)), ("b", (1,)), ("z", (2,)), ("c", (3,))], {}),
    ("p q; a: p > r; c: r > s; ab: q > t; b: t > u", [("a", (0,)), ("ab", (1,)), ("c", (2,)), ("b", (3,))], {}),
    # The same names: by the first level, so y behind x comes ahead of x behind y, which is a stop then.
    ("a b p; x: a p > c p; y: b p > d p; join: c d > e",
     [("x", (0, 2)), ("y", (1, 2)), ("y", (1, 4)), ("x", (0, 6)), ("join", (3, 7))], {3: 2}),
    # The same names, the first level shorter: x, y, z one behind the other come ahead of y behind x and z.
    ("a b c p q; x: a p > d p; y: b p q > e p q; z: c q > f q",
     [("x", (0, 3)), ("y", (1, 3, 4)), ("z", (2, 4)), ("y", (1, 4, 6)), ("x", (0, 8)), ("z", (2, 9)),
      ("y", (1, 3, 11)), ("z", (2, 14)), ("y", (1, 6, 11))], {4: 3, 6: 5, 8: 7}),
    # Own troops of one and of three; none has two.
    ("a b; go: a > c; on: b > d; join: c d > e; end: e >",
     [("go", (0,)), ("on", (1,)), ("join", (2, 3)), ("end", (4,))], {}),
    # A spot that a stop gave is not taken, beside others that are free either: meet comes but once.
    ("a b; one: a > c; two: a > c; on: b > d; meet: c d > e",
     [("on", (1,)), ("one", (0,)), ("two", (0,)), ("meet", (2, 3))], {2: 1}),
]


def partners_of(web):
    """The stops of a grown web with their partners."""
    return {stop: web.partner(stop) for stop in web.stops()}


def many_nets():
    texts = [text for text, occurrences, partners in TOLD] + list(RICH_NETS)
    return ([net_of(text) for text in texts] + free_nets("ab", 2, 1) + free_nets("abc", 2, 31)
            + free_nets("abc", 3, 1499) + ring_nets(60))


def troops_without_stops(web):
    stops = set(web.stops())
    return [troop for troop in all_troops(web) if not stops & set(troop)]


class Told(unittest.TestCase):
    def test_occurrence_by_occurrence(self):
        for text, occurrences, partners in TOLD:
            with self.subTest(text):
                web = Grown(net_of(text))
                self.assertEqual(web.occurrences(), occurrences)
                self.assertEqual(web.stops(), sorted(partners))
                self.assertEqual(partners_of(web), partners)

    def test_spots(self):
        web = Grown(net_of("b a; go: a > z c; on: b > d; join: d c z > a b"))
        self.assertEqual(web.occurrences(), [("go", (0,)), ("on", (1,)), ("join", (2, 3, 4))])
        self.assertEqual(web.spots(), [("a", None), ("b", None), ("c", 0), ("z", 0), ("d", 1), ("a", 2), ("b", 2)])
        self.assertEqual(partners_of(web), {2: None})

    def test_the_net_is_told(self):
        net = net_of("a; go: a > b")
        self.assertIs(Grown(net).net(), net)

    def test_it_is_a_web(self):
        self.assertIsInstance(Grown(net_of("a; go: a > b")), Web)

    def test_kinds(self):
        web = Grown(net_of("a; one: a > b; two: a > b; stay: a > a"))
        self.assertEqual((type(web.stops()), web.stops()), (list, [1, 2]))
        self.assertEqual((web.partner(1), web.partner(2), type(web.partner(2))), (None, 0, int))

    def test_by_the_document_s_words_step_by_step(self):
        sorts = set()
        for net in many_nets():
            web = Grown(net)
            other, partners = counted_grown(net)
            self.assertEqual(told_by(web), told_by(other), parts_of(net))
            self.assertEqual(partners_of(web), partners, parts_of(net))
            sorts.update(type(partner) for partner in partners.values())
        self.assertEqual(sorts, {int, type(None)})

    def test_large_nets_step_by_step(self):
        for text in LARGE_NETS:
            net = net_of(text)
            web = Grown(net)
            other, partners = counted_grown(net)
            self.assertEqual((told_by(web), partners_of(web)), (told_by(other), partners))
            self.assertGreater(len(web.occurrences()), 60)


class Partner(unittest.TestCase):
    def refused(self, web, one):
        self.assertEqual(refusal_of(lambda: web.partner(one)), ("NoOccurrence", {}), one)

    def test_of_what_is_no_stop(self):
        web = Grown(net_of("a; one: a > b; two: a > b; on: b > c; off: c > a"))
        self.assertEqual(partners_of(web), {1: 0, 3: None})
        for one in (0, 2, -1, -2, -3, -4, -5, 4, 5, 1000, -1000):
            self.refused(web, one)

    def test_in_webs_without_stops(self):
        for text in ("", "a", "a; go: a > b"):
            web = Grown(net_of(text))
            self.assertEqual(web.stops(), [])
            for one in (-1, 0, 1):
                self.refused(web, one)

    def test_in_many_webs(self):
        for net in ring_nets(30):
            web = Grown(net)
            stops = web.stops()
            for one in range(-3, len(web.occurrences()) + 3):
                if one not in stops:
                    self.refused(web, one)


class Crowding(unittest.TestCase):
    def test_refused(self):
        for text, row in (("a b; go: a > b", ["go"]), ("a c; go: a > b; on: b > c", ["go", "on"]),
                          ("a; one: a > a b", ["one", "one"])):
            with self.assertRaises(Crowded) as caught:
                Grown(net_of(text))
            self.assertEqual(caught.exception.row, row)

    def test_all_small_nets(self):
        for made, start in small_nets("abc", 2, 97):
            size = counted_crowding(made, start, "abc")
            refusal = refusal_of(lambda: Grown(Net(made, start)))
            if size is None:
                self.assertIsNone(refusal, (made, start))
            else:
                self.assertEqual(refusal[0], "Crowded", (made, start))
                self.assertEqual(len(refusal[1]["row"]), size, (made, start))
                self.assertEqual(counted_row(made, start, refusal[1]["row"]), ("Full", size - 1), (made, start))


class WhatHolds(unittest.TestCase):
    def test_own_troops_rise(self):
        for net in many_nets():
            web = Grown(net)
            troops = [own(web, one) for one in range(len(web.occurrences()))]
            for one, other in zip(troops, troops[1:]):
                self.assertTrue(counted_less(web, one, other), (web.occurrences(), one, other))
                self.assertTrue(less(web, one, other), (web.occurrences(), one, other))

    def test_states_of_own_troops_and_partners(self):
        for net in many_nets():
            web = Grown(net)
            states = [counted_state(web, counted_own(web, one)) for one in range(len(web.occurrences()))]
            stops = web.stops()
            others = [state for one, state in enumerate(states) if one not in stops] + [net.start()]
            self.assertEqual(len(others), len(set(others)), parts_of(net))
            for stop in stops:
                partner = web.partner(stop)
                if partner is None:
                    self.assertEqual(states[stop], net.start(), parts_of(net))
                else:
                    self.assertEqual(partner, states.index(states[stop]), parts_of(net))
                    self.assertLess(partner, stop)
                    self.assertNotEqual(states[stop], net.start())
                    self.assertNotIn(partner, stops)

    def test_fewer_occurrences_than_states(self):
        for net in many_nets() + [net_of(text) for text in LARGE_NETS]:
            web = Grown(net)
            self.assertLess(len(web.occurrences()) - len(web.stops()), len(counted_states(net)), parts_of(net))

    def test_nothing_takes_a_spot_that_a_stop_gave(self):
        for net in many_nets() + [net_of(text) for text in LARGE_NETS]:
            web = Grown(net)
            stops = set(web.stops())
            taken = [spot for move, spots in web.occurrences() for spot in spots]
            self.assertEqual([spot for spot in taken if web.spots()[spot][1] in stops], [], parts_of(net))

    def test_none_that_may_come_is_left_out(self):
        for net in many_nets():
            web = Grown(net)
            stops = set(web.stops())
            for move, spots in counted_comings(web) if len(web.spots()) < 16 else comings(web):
                self.assertTrue(stops & {web.spots()[spot][1] for spot in spots}, (parts_of(net), move, spots))

    def test_each_state_is_that_of_a_troop_without_stops(self):
        for net in many_nets():
            web = Grown(net)
            states = {state_of(web, troop) for troop in troops_without_stops(web)}
            self.assertEqual(states, counted_states(net), parts_of(net))

    def test_whatever_may_be_done_there_goes_on(self):
        for net in many_nets():
            web = Grown(net)
            moves, start = parts_of(net)
            for troop in troops_without_stops(web):
                state = state_of(web, troop)
                there = sorted(web.occurrences()[one][0] for one in going_on(web, troop))
                self.assertEqual(there, may(net, state), (moves, start, troop))
                self.assertEqual(there, [move[0] for move in moves
                                         if isinstance(counted(moves, state, move[0]), tuple)])

    def test_moves_that_no_row_has_have_no_occurrence(self):
        web = Grown(net_of("a; go: a > b; on: b > c; never: a c > d; nor: d > a"))
        self.assertEqual(web.occurrences(), [("go", (0,)), ("on", (1,))])

    def test_two_beside_one_another_in_rings(self):
        # Six rings turn on their own: sixty-four states, and just two occurrences for each ring.
        text = "a c e g i k; m: a > b; n: b > a; o: c > d; p: d > c; q: e > f; r: f > e"
        web = Grown(net_of(text + "; s: g > h; t: h > g; u: i > j; v: j > i; w: k > l; x: l > k"))
        self.assertEqual(len(counted_states(web.net())), 64)
        self.assertEqual([move for move, spots in web.occurrences()], list("moqsuwnprtvx"))
        self.assertEqual(partners_of(web), {stop: None for stop in range(6, 12)})
        self.assertFalse(counted_clashes(web, 6, 11))

    def test_a_long_row(self):
        # A bead goes round through twelve places, and home by the last move.
        places = "abcdefghijkl"
        moves = [("m" + places[at], [places[at]], [places[(at + 1) % 12]]) for at in range(12)]
        web = Grown(Net(moves, ["a"]))
        self.assertEqual(web.occurrences(), [("m" + place, (at,)) for at, place in enumerate(places)])
        self.assertEqual(partners_of(web), {11: None})


class KeptApart(unittest.TestCase):
    TEXT = "a; one: a > b; two: a > b; on: b > c; off: c > a"

    def test_the_lists_told(self):
        web = Grown(net_of(self.TEXT))
        before = copy.deepcopy((told_by(web), web.stops(), partners_of(web)))
        for told in (web.stops(), web.spots(), web.occurrences()):
            told.append(9)
            told[0] = 7
            told.clear()
        self.assertEqual((told_by(web), web.stops(), partners_of(web)), before)
        self.assertEqual((told_by(web), web.stops(), partners_of(web)), before)

    def test_the_lists_of_which_the_net_was_made(self):
        moves, start = [("one", ["a"], ["b"]), ("two", ["b"], ["a"])], ["a"]
        web = Grown(Net(moves, start))
        moves[0][1].append("z")
        moves.clear()
        start.clear()
        self.assertEqual((web.occurrences(), web.stops()), ([("one", (0,)), ("two", (1,))], [1]))

    def test_the_net_stays_as_it_was(self):
        net = net_of(self.TEXT)
        before = copy.deepcopy((parts_of(net), net.places()))
        first = Grown(net)
        second = Grown(net)
        self.assertEqual((parts_of(net), net.places()), before)
        self.assertEqual((told_by(first), partners_of(first)), (told_by(second), partners_of(second)))

    def test_two_webs_have_nothing_in_common(self):
        net = net_of(self.TEXT)
        one, other = Grown(net), Grown(net_of("a; stay: a > a"))
        again = Grown(net)
        self.assertEqual((one.stops(), other.stops(), again.stops()), ([1, 3], [0], [1, 3]))

    def test_other_orders_of_moves_and_places(self):
        for net in [net_of(text) for text in RICH_NETS] + ring_nets(30):
            moves, start = parts_of(net)
            web = Grown(net)
            for turn in range(len(moves)):
                turned = moves[turn:] + moves[:turn]
                others = [(name, takes[::-1], gives[1:] + gives[:1]) for name, takes, gives in turned]
                for other in (Grown(Net(others, start[::-1])), Grown(Net(others[::-1], start[1:] + start[:1]))):
                    self.assertEqual((told_by(web), partners_of(web)), (told_by(other), partners_of(other)))


if __name__ == "__main__":
    unittest.main()
