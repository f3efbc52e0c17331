import unittest
from itertools import product

from helper import counted, counted_row, net_of, outcome_of, small_nets, some_of

from unfoldnet.errors import Full, Held, NoMove
from unfoldnet.nets import Net
from unfoldnet.play import done, may, played

# In its start `go` may be done, `lack` lacks a bead, `more` would give a second one, `both` both at once.
MIXED = "a b; both: a c > b; go: a > c; lack: c > d; more: a > b; stay: a b > b d"


class May(unittest.TestCase):
    def test_moves_of_all_sorts(self):
        net = net_of(MIXED)
        self.assertEqual(may(net, net.start()), ["go", "stay"])
        self.assertEqual(may(net, ("b", "c")), ["lack"])
        self.assertEqual(may(net, ("a",)), ["go", "more"])
        self.assertEqual(may(net, ("a", "c", "d")), ["both", "more"])
        self.assertEqual(may(net, ()), [])

    def test_told_sorted_whatever_the_order_of_the_moves(self):
        net = Net([("z", ["a"], []), ("b", ["a"], []), ("ab", ["a"], [])], ["a"])
        self.assertEqual(may(net, ("a",)), ["ab", "b", "z"])

    def test_a_list_told_and_changed(self):
        net = net_of(MIXED)
        may(net, net.start()).append("x")
        self.assertEqual(may(net, net.start()), ["go", "stay"])

    def test_a_net_without_moves(self):
        self.assertEqual(may(Net([], ["a"]), ("a",)), [])
        self.assertEqual(may(Net([], []), ()), [])


class Done(unittest.TestCase):
    def refused(self, error, net, state, move):
        with self.assertRaises(error) as caught:
            done(net, state, move)
        self.assertEqual(caught.exception.at, 0)
        self.assertIs(type(caught.exception.at), int)

    def test_beads_go_and_come(self):
        net = net_of("a b; join: a b > c; part: c > b a; out: c >; stay: a > a; swap: a b > b d")
        self.assertEqual(done(net, ("a", "b"), "join"), ("c",))
        self.assertEqual(done(net, ("c", "d"), "part"), ("a", "b", "d"))
        self.assertEqual(done(net, ("c",), "out"), ())
        self.assertEqual(done(net, ("b", "c", "d"), "out"), ("b", "d"))
        self.assertEqual(done(net, ("a", "c"), "stay"), ("a", "c"))
        self.assertEqual(done(net, ("a", "b", "c"), "swap"), ("b", "c", "d"))

    def test_the_state_told_is_a_rising_tuple(self):
        state = done(net_of("b d; go: d > c a"), ("b", "d"), "go")
        self.assertEqual(state, ("a", "b", "c"))
        self.assertIs(type(state), tuple)

    def test_a_state_need_not_be_one_that_the_net_can_come_to(self):
        self.assertEqual(done(net_of("; go: a > b"), ("a",), "go"), ("b",))

    def test_refusals_in_their_order(self):
        net = net_of(MIXED)
        self.refused(NoMove, net, ("a", "b"), "nowhere")
        self.refused(NoMove, net, ("a", "b"), "a")
        self.refused(Held, net, ("a", "b"), "lack")
        self.refused(Held, net, ("a", "b"), "both")
        self.refused(Full, net, ("a", "b"), "more")
        self.refused(Full, net, ("a", "b", "c"), "both")
        self.refused(Full, net, ("a", "b", "d"), "stay")
        self.refused(Held, net, (), "go")

    def test_texts_that_are_no_names(self):
        net = net_of(MIXED)
        for text in ("", "GO", "go ", "a lot of it"):
            self.refused(NoMove, net, ("a", "b"), text)

    def test_one_of_several_beads_is_lacking(self):
        net = net_of("; go: a b c >")
        for state in (("a", "b"), ("a", "c"), ("b", "c"), ("c",)):
            self.refused(Held, net, state, "go")
        self.assertEqual(done(net, ("a", "b", "c"), "go"), ())

    def test_one_of_several_places_has_a_bead(self):
        net = net_of("; go: a > b c d")
        for state in (("a", "b"), ("a", "c"), ("a", "d"), ("a", "b", "c", "d")):
            self.refused(Full, net, state, "go")
        self.assertEqual(done(net, ("a",), "go"), ("b", "c", "d"))


class Played(unittest.TestCase):
    def refused(self, error, at, net, row):
        kept = list(row)
        with self.assertRaises(error) as caught:
            played(net, row)
        self.assertEqual(caught.exception.at, at)
        self.assertIs(type(caught.exception.at), int)
        self.assertEqual(row, kept)

    def test_all_states_are_told(self):
        net = net_of("a; go: a > b; on: b > c d; back: c d > a")
        self.assertEqual(played(net, ["go", "on", "back", "go"]), [("a",), ("b",), ("c", "d"), ("a",), ("b",)])

    def test_the_row_without_moves(self):
        self.assertEqual(played(net_of("c a; go: a > b"), []), [("a", "c")])
        self.assertEqual(played(Net([], []), []), [()])

    def test_refused_at_the_beginning(self):
        net = net_of(MIXED)
        self.refused(NoMove, 0, net, ["nowhere", "go"])
        self.refused(Held, 0, net, ["lack", "go"])
        self.refused(Held, 0, net, ["both"])
        self.refused(Full, 0, net, ["more", "go"])

    def test_refused_in_the_midst(self):
        net = net_of("a e; go: a > b; on: b > a; far: b > c; full: b > e; held: c > a")
        self.refused(NoMove, 2, net, ["go", "on", "nowhere", "go"])
        self.refused(NoMove, 3, net, ["go", "on", "go", "a"])
        self.refused(Held, 3, net, ["go", "on", "go", "held", "far"])
        self.refused(Held, 1, net, ["go", "go"])
        self.refused(Full, 1, net, ["go", "full", "on"])
        self.refused(Full, 5, net, ["go", "on", "go", "on", "go", "full"])

    def test_the_first_refusal_is_the_row_s(self):
        net = net_of("a e; go: a > b; full: b > e; held: c > a")
        self.refused(Full, 1, net, ["go", "full", "held", "nowhere"])
        self.refused(Held, 1, net, ["go", "held", "nowhere", "full"])
        self.refused(NoMove, 0, net, ["nowhere", "held", "full"])

    def test_the_row_handed_in_stays(self):
        row = ["go", "on"]
        states = played(net_of("a; go: a > b; on: b > a"), row)
        self.assertEqual(row, ["go", "on"])
        row.append("go")
        self.assertEqual(states, [("a",), ("b",), ("a",)])

    def test_a_list_told_and_changed(self):
        net = net_of("a; go: a > b; on: b > a")
        played(net, ["go", "on"]).append("x")
        played(net, []).clear()
        self.assertEqual(played(net, ["go", "on"]), [("a",), ("b",), ("a",)])
        self.assertEqual(net.start(), ("a",))

    def test_sixty_moves(self):
        net = net_of("a; go: a > b; on: b > a")
        self.assertEqual(played(net, ["go", "on"] * 30), [("a",)] + [("b",), ("a",)] * 30)
        self.refused(Held, 59, net, ["go", "on"] * 29 + ["go", "go"])


class AllSmallNets(unittest.TestCase):
    def test_may_and_done_are_as_counted(self):
        states = [tuple(sorted(state)) for state in some_of("ab", 0)]
        for moves, start in small_nets("ab", 2, 1):
            net = Net(moves, start)
            for state in states:
                outcomes = {name: counted(moves, state, name) for name in ("hop", "run", "walk")}
                open_moves = [name for name in outcomes if isinstance(outcomes[name], tuple)]
                self.assertEqual(may(net, state), open_moves, (moves, state))
                for name, outcome in outcomes.items():
                    asked = outcome_of(lambda: done(net, state, name))
                    self.assertEqual(asked, outcome if isinstance(outcome, tuple) else (outcome, 0), (moves, state))

    def test_played_is_as_counted(self):
        rows = [list(row) for size in range(4) for row in product(("run", "walk", "hop"), repeat=size)]
        for moves, start in small_nets("ab", 2, 1):
            net = Net(moves, start)
            for row in rows:
                self.assertEqual(outcome_of(lambda: played(net, row)), counted_row(moves, start, row),
                                 (moves, start, row))

    def test_larger_nets_are_as_counted(self):
        rows = [list(row) for size in range(5) for row in product(("run", "walk", "hop"), repeat=size)]
        for moves, start in small_nets("abcd", 3, 1200007):
            net = Net(moves, start)
            for row in rows:
                self.assertEqual(outcome_of(lambda: played(net, row)), counted_row(moves, start, row),
                                 (moves, start, row))


if __name__ == "__main__":
    unittest.main()
