import unittest

from helper import (TWO_WAYS_NETS, GrownAskedAgain, counted_reach, counted_steps, last_state, net_of,
                    nets_of_many_sorts, parts_of, ring_nets)

from unfoldnet.deadends import dead_end, never
from unfoldnet.grown import Grown
from unfoldnet.nets import Net

# Nets with how many moves the shortest row to a dead end has, None where there is none; and the moves that no row has.
TOLD = [
    ("", 0, []),
    ("a b", 0, []),
    ("; go: a > b; on: b > c", 0, ["go", "on"]),
    ("a; go: a b > c", 0, ["go"]),
    ("a; end: a >", 1, []),
    ("a; stay: a > a", None, []),
    ("a; stay: a > a; go: a > b", 1, []),
    ("a; go: a > b; back: b > a", None, []),
    # One bead goes round, another one comes to its end: no dead end. If both end, one behind both moves.
    ("a b; stay: a > a; end: b >", None, []),
    ("a b; end: a >; out: b >", 2, []),
    # Two ways to a dead end, the shorter one by the later name; and two dead ends, the nearer one by the later name.
    ("a; go: a > b; on: b > c; short: a > c", 1, []),
    ("a; go: a > b; on: b > c; zip: a > d", 1, []),
    ("a; go: a > b; on: b > c; off: c > d; zip: a > e; zap: e > f; round: f > a", 3, []),
    # Each holds what the other one needs.
    ("f g p q; one: f p > x; two: g q > y; more: g x > f g p; most: f y > f g q", 2, []),
    # never has a place that gets no bead, nor one behind it; vain needs two places that exclude one another.
    ("a; go: a > b; back: b > a; never: a n > c; nor: c > n; vain: a b > c", None, ["never", "nor", "vain"]),
    ("a; z: q > a; m: q > b; b: q > c; ab: q > d; go: a > a", None, ["ab", "b", "m", "z"]),
    # join stands only behind the lesser one of two troops.
    (TWO_WAYS_NETS[0], 3, []),
    (TWO_WAYS_NETS[1], 3, []),
]


class DeadEnd(unittest.TestCase):
    def ends(self, net, fewest):
        state = last_state(self, net, dead_end(Grown(net)), fewest)
        if state is not None:
            self.assertEqual(counted_steps(net)[state], {}, parts_of(net))

    def test_by_hand(self):
        for text, fewest, moves in TOLD:
            with self.subTest(text):
                self.ends(net_of(text), fewest)

    def test_the_start_s_state_is_one(self):
        for text in ("", "a", "; go: a > b", "a; go: a b > c", "a b; go: c > d; on: a c > b"):
            self.assertEqual(dead_end(Grown(net_of(text))), [])

    def test_as_played(self):
        lengths = []
        for net in nets_of_many_sorts() + ring_nets(400)[70:]:
            steps = counted_steps(net)
            reach = counted_reach(steps, net.start())
            fewest = min((reach[state] for state in steps if not steps[state]), default=None)
            self.ends(net, fewest)
            lengths.append(fewest)
        for length in (None, 0, 1, 2, 3, 4):
            self.assertGreater(lengths.count(length), 4, length)

    def test_each_of_many_beads_must_go(self):
        net = Net([("m" + place, [place], []) for place in "abcdefghij"], list("abcdefghij"))
        self.assertEqual(sorted(dead_end(Grown(net))), net.moves())


class Never(unittest.TestCase):
    def test_by_hand(self):
        for text, fewest, moves in TOLD:
            with self.subTest(text):
                told = never(Grown(net_of(text)))
                self.assertEqual((type(told), told), (list, moves))

    def test_as_played_and_as_the_grown_web_has_it(self):
        some = 0
        for net in nets_of_many_sorts():
            grown = Grown(net)
            there = {move for steps in counted_steps(net).values() for move in steps}
            self.assertEqual(never(grown), sorted(set(net.moves()) - there), parts_of(net))
            shown = {move for move, spots in grown.occurrences()}
            self.assertEqual(never(grown), sorted(set(net.moves()) - shown), parts_of(net))
            some += never(grown) not in ([], net.moves())
        self.assertGreater(some, 50)

    def test_a_move_that_stands_as_a_stop_alone(self):
        grown = Grown(net_of("a; one: a > b; two: a > b; never: b c > a"))
        self.assertEqual(grown.stops(), [1])
        self.assertEqual(never(grown), ["never"])


class KeptApart(GrownAskedAgain, unittest.TestCase):
    texts = [told[0] for told in TOLD]

    def answers(self, grown):
        return dead_end(grown), never(grown)


if __name__ == "__main__":
    unittest.main()
