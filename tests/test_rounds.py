import unittest

from helper import (BARE_NETS, FORK, ROUND, GrownAskedAgain, counted_reach, counted_row, counted_steps, last_state,
                    net_of, nets_of_many_sorts, parts_of, refusal_of, ring_nets)

from unfoldnet.grown import Grown
from unfoldnet.nets import Net
from unfoldnet.rounds import lost, round_of

ZIGZAG = ("s; a: s > pa; b: s > pb; c: s > pc; d: s > pd; e: pa > qa; f: pb > qb; g: pc > qc; h: pd > qd; "
          "i: qa > pb; j: qb > pc; k: qc > pd; l: qd")

# Nets with the moves that have a round, and how many moves the shortest row has behind which there is no way back to
# the start's state; None where there is none.
TOLD = [
    ("", [], None),
    ("a b", [], None),
    ("; go: a > b", [], None),
    ("a; go: a b > c", [], None),
    ("a; end: a >", [], 1),
    ("a; stay: a > a", ["stay"], None),
    ("a b; swap: a b > b a", ["swap"], None),
    ("a; stay: a > a; go: a > b", ["stay"], 1),
    ("a; go: a > b; back: b > a", ["back", "go"], None),
    # The ring comes by other states than the start's, and can be left.
    ("a; go: a > b; on: b > c; back: c > b; end: c >", ["back", "on"], 1),
    # A move of a ring that must be gone in between; and one that is beside a ring.
    ("a; x: a > b; y: b > c; z: c > a; w: b > d; v: d > e", ["x", "y", "z"], 2),
    ("a b; stay: a > a; end: b >", ["stay"], 1),
    # The way back is far, but there is one; the shorter way leads nowhere.
    ("a; go: a > b; on: b > c; off: c > d; home: d > a", ["go", "home", "off", "on"], None),
    ("a; go: a > b; on: b > c; off: c > a; zip: c > d; zap: d > e", ["go", "off", "on"], 3),
    # The state comes again, but not the start's.
    ("a b; go: a b > a c; turn: c > d; more: d > c", ["more", "turn"], 1),
    # Two beads: each has its ring, and there is a ring only by both.
    ("a b; one: a > c; two: b > d; meet: c d > a b", ["meet", "one", "two"], None),
    ("a b; one: a > c; two: b > d; meet: c d > a", [], 1),
    # From pa the way goes forth and back, through states ever as near to the start's, to qd and home.
    (ZIGZAG + " > s", list("abcdefghijkl"), None),
    (ZIGZAG + " > pa", list("efghijkl"), 1),
    (ZIGZAG + " >", [], 1),
]


def ringing(steps, move):
    """Whether some state has the move and comes again behind it."""
    return any(move in moves and state in counted_reach(steps, moves[move]) for state, moves in steps.items())


class RoundOf(unittest.TestCase):
    def rings(self, grown, move):
        """Holds a round that is told against play; tells whether one is."""
        told = round_of(grown, move)
        place = (parts_of(grown.net()), move, told)
        if told is None:
            return False
        self.assertEqual((type(told), [type(part) for part in told]), (tuple, [list, list]), place)
        row, ring = told
        self.assertIn(move, ring, place)
        ahead, whole = [counted_row(*parts_of(grown.net()), moves) for moves in (row, row + ring)]
        self.assertIsInstance(whole, list, place)
        self.assertEqual(ahead[-1], whole[-1], place)
        return True

    def test_by_hand(self):
        for text, moves, fewest in TOLD:
            with self.subTest(text):
                grown = Grown(net_of(text))
                self.assertEqual([move for move in grown.net().moves() if self.rings(grown, move)], moves)

    def test_a_move_that_takes_and_gives_the_same_places(self):
        for text, move, row in (("a; stay: a > a", "stay", []), ("b a; swap: a b > b a", "swap", []),
                                ("a; go: a > b c; turn: b c > c b", "turn", ["go"])):
            grown = Grown(net_of(text))
            self.assertTrue(self.rings(grown, move))
            self.assertEqual(round_of(grown, move)[0], row)

    def test_a_ring_with_several_moves(self):
        row, ring = round_of(Grown(net_of("a; go: a > b; on: b > c; back: c > b; end: c >")), "back")
        self.assertEqual(sorted(ring), ["back", "on"])
        self.assertEqual(row[0], "go")

    def test_each_move_as_looked_for(self):
        found = {True: 0, False: 0}
        for net in nets_of_many_sorts() + ring_nets(250)[70:]:
            grown, steps = Grown(net), counted_steps(net)
            for move in net.moves():
                expected = ringing(steps, move)
                self.assertIs(self.rings(grown, move), expected, (parts_of(net), move))
                found[expected] += 1
        self.assertGreater(min(found.values()), 300)

    def test_a_long_ring(self):
        places = "abcdefghijkl"
        net = Net([("m" + places[at], [places[at]], [places[(at + 1) % 12]]) for at in range(12)], ["c"])
        grown = Grown(net)
        for move in net.moves():
            self.assertTrue(self.rings(grown, move))
            self.assertEqual(sorted(round_of(grown, move)[1]), net.moves())

    def test_no_round_where_all_beads_go(self):
        net = Net([("m" + place, [place], []) for place in "abcdefghij"], list("abcdefghij"))
        self.assertIsNone(round_of(Grown(net), "ma"))

    def test_what_is_no_move(self):
        for text in BARE_NETS + (FORK, ROUND):
            grown = Grown(net_of(text))
            for word in ("nowhere", "a", "", "GO", "go on", "muchtoolong", "f1"):
                self.assertEqual(refusal_of(lambda: round_of(grown, word)), ("NoMove", {"at": 0}), word)

    def test_a_move_that_no_row_has(self):
        grown = Grown(net_of("a; stay: a > a; never: a b > a b"))
        self.assertIsNone(round_of(grown, "never"))

    def test_a_move_of_another_net(self):
        one, other = Grown(net_of("a; stay: a > a")), Grown(net_of("a; rest: a > a"))
        self.assertEqual(refusal_of(lambda: round_of(one, "rest")), ("NoMove", {"at": 0}))
        self.assertEqual(refusal_of(lambda: round_of(other, "stay")), ("NoMove", {"at": 0}))
        self.assertTrue(self.rings(one, "stay") and self.rings(other, "rest"))


class Lost(unittest.TestCase):
    def leads_away(self, net, fewest):
        state = last_state(self, net, lost(Grown(net)), fewest)
        if state is not None:
            self.assertNotIn(net.start(), counted_reach(counted_steps(net), state), parts_of(net))

    def test_by_hand(self):
        for text, moves, fewest in TOLD:
            with self.subTest(text):
                self.leads_away(net_of(text), fewest)

    def test_as_played(self):
        lengths = []
        for net in nets_of_many_sorts() + ring_nets(400)[70:]:
            steps = counted_steps(net)
            reach = counted_reach(steps, net.start())
            away = [state for state in steps if net.start() not in counted_reach(steps, state)]
            fewest = min((reach[state] for state in away), default=None)
            self.leads_away(net, fewest)
            lengths.append(fewest)
        for length in (None, 1, 2, 3):
            self.assertGreater(lengths.count(length), 4, length)

    def test_never_the_row_without_moves(self):
        # The row without moves leads from the start's state to itself, also where it is a dead end.
        for net in nets_of_many_sorts():
            self.assertNotEqual(lost(Grown(net)), [])

    def test_as_few_moves_as_any(self):
        self.assertEqual(lost(Grown(net_of("a; go: a > b; on: b > c; zip: a > d; zap: d > a; off: c > c"))), ["go"])
        self.assertEqual(lost(Grown(net_of("a; go: a > b; on: b > c; home: b > a; zip: a > d"))), ["zip"])
        self.assertEqual(lost(Grown(net_of("a; go: a > b; on: b > c; home: b > a; stay: c > c"))), ["go", "on"])


class KeptApart(GrownAskedAgain, unittest.TestCase):
    texts = [told[0] for told in TOLD]

    def answers(self, grown):
        return [round_of(grown, move) for move in grown.net().moves()], lost(grown)


if __name__ == "__main__":
    unittest.main()
