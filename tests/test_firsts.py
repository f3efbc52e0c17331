import unittest
from itertools import permutations

from helper import (BARE_NETS, FORK, RICH_NETS, ROUND, TWO_WAYS_NETS, GrownAskedAgain, counted_own, counted_reach,
                    counted_steps, last_state, net_of, nets_of_many_sorts, parts_of, refusal_of, ring_nets,
                    rows_to_play)

from unfoldnet.firsts import first_of, first_without, needs
from unfoldnet.grown import Grown
from unfoldnet.nets import Net

# The short way comes to the state first, so the web stops at the end of the long one.
TWO_ROADS = "a; short: a > z; long: a > b; way: b > c; home: c > z; on: z > d; off: d > e"

# Nets with one of their moves, how many moves its first coming has, and its needs.
TOLD = [
    ("a; go: a > b", "go", 1, []),
    ("a; go: a > b; on: b > c", "on", 2, ["go"]),
    ("a; go: a > b; on: b > c; off: c > d", "off", 3, ["go", "on"]),
    ("a; stay: a > a", "stay", 1, []),
    # It needs what gives it each of its places, in whatever order; not what stands beside or behind it.
    ("a b c; x: a > d; y: b > e; z: c > f; meet: e d > g; end: g >", "meet", 3, ["x", "y"]),
    ("a b; zip: b > e; ab: a > c; meet: c e > g", "meet", 3, ["ab", "zip"]),
    # One of two is enough: none is needed. But what both need is.
    ("a; one: a > b; two: a > b; on: b > c", "on", 2, []),
    ("p; go: p > a; one: a > b; two: a > b; on: b > c", "on", 3, ["go"]),
    # The one way is longer than the other, and the web stops at its end.
    (TWO_ROADS, "on", 2, []),
    (TWO_ROADS, "off", 3, ["on"]),
    (TWO_ROADS, "home", 3, ["long", "way"]),
    # A bead must come back ahead of it; or none does.
    ("a b; go: a > c; on: b c > d a; both: a d > e", "both", 3, ["go", "on"]),
    ("a b; go: a > c; back: c > a; on: b c > b d; both: a d > e", "both", None, ["back", "go", "on"]),
    # No row has it: all others.
    ("; go: a > b", "go", None, []),
    ("a; go: a b > c", "go", None, []),
    ("a; stay: a > a; never: b > a; go: a > c", "never", None, ["go", "stay"]),
    ("a; z: a > c; never: b > a; nor: b > b; m: c > a", "nor", None, ["m", "never", "z"]),
    ("a; z: a > c; y: c > b; vain: a b > c", "vain", None, ["y", "z"]),
    (TWO_WAYS_NETS[0], "join", 3, ["go"]),
    (TWO_WAYS_NETS[2], "under", 4, ["fork", "out"]),
]


def without(steps, other):
    """The steps of all states, but for those by a move."""
    return {state: {move: behind for move, behind in moves.items() if move != other} for state, moves in steps.items()}


def fewest_with(steps, start, move):
    """How many moves the shortest row by these steps has that ends with a move; or None."""
    reach = counted_reach(steps, start)
    return min((reach[state] + 1 for state in reach if move in steps[state]), default=None)


class Told(unittest.TestCase):
    def ends(self, net, row, move, fewest):
        """Holds a row that is told against play."""
        if last_state(self, net, row, fewest) is not None:
            self.assertEqual(row[-1], move, (parts_of(net), row))
            self.assertNotIn(move, row[:-1], (parts_of(net), row))


class FirstOf(Told):
    def test_by_hand(self):
        for text, move, fewest, others in TOLD:
            with self.subTest((text, move)):
                self.ends(net_of(text), first_of(Grown(net_of(text)), move), move, fewest)

    def test_the_very_row_where_there_is_just_one(self):
        grown = Grown(net_of(TWO_ROADS))
        for move, row in (("short", "short"), ("on", "short on"), ("home", "long way home"), ("off", "short on off")):
            self.assertEqual(first_of(grown, move), row.split())

    def test_each_move_as_searched(self):
        lengths = []
        for net in nets_of_many_sorts() + ring_nets(250)[70:]:
            grown, steps = Grown(net), counted_steps(net)
            for move in net.moves():
                fewest = fewest_with(steps, net.start(), move)
                self.ends(net, first_of(grown, move), move, fewest)
                lengths.append(fewest)
        for length in (None, 1, 2, 3, 4):
            self.assertGreater(lengths.count(length), 20, length)

    def test_as_many_moves_as_the_least_own_troop(self):
        for net in nets_of_many_sorts():
            grown = Grown(net)
            occurrences = grown.occurrences()
            if len(occurrences) > 60:
                continue
            sizes = {}
            for number, (move, spots) in enumerate(occurrences):
                sizes[move] = min(sizes.get(move, 99), len(counted_own(grown, number)))
            for move in net.moves():
                row = first_of(grown, move)
                self.assertEqual(None if row is None else len(row), sizes.get(move), (parts_of(net), move))

    def test_as_all_short_rows_tell(self):
        for text in RICH_NETS[:4] + TWO_WAYS_NETS + (FORK, ROUND, TWO_ROADS):
            net = net_of(text)
            grown, rows = Grown(net), rows_to_play(net, 4)
            for move in net.moves():
                lengths = [len(row) for row in rows if move in row]
                if lengths:
                    self.ends(net, first_of(grown, move), move, min(lengths))
                else:
                    self.assertTrue(first_of(grown, move) is None or len(first_of(grown, move)) > 4)

    def test_twelve_behind_one_another(self):
        places = "abcdefghijkl"
        net = Net([("m" + places[at], [places[at]], [places[(at + 1) % 12]]) for at in range(12)], ["c"])
        grown = Grown(net)
        self.assertEqual(first_of(grown, "mb"), ["m" + place for place in "cdefghijklab"])
        self.assertEqual(first_of(grown, "mc"), ["mc"])


class FirstWithout(Told):
    def held(self, net, row, move, other, fewest):
        self.ends(net, row, move, fewest)
        self.assertNotIn(other, row or [], parts_of(net))

    def test_by_hand(self):
        grown = Grown(net_of(TWO_ROADS))
        for move, other, row in (("on", "short", "long way home on"), ("on", "long", "short on"),
                                 ("off", "short", "long way home on off"), ("off", "way", "short on off"),
                                 ("home", "short", "long way home"), ("short", "long", "short"),
                                 ("way", "on", "long way"), ("on", "off", "short on")):
            self.assertEqual(first_without(grown, move, other), row.split(), (move, other))
        for move, other in (("off", "on"), ("home", "long"), ("home", "way"), ("way", "long")):
            self.assertIsNone(first_without(grown, move, other))

    def test_a_state_that_only_the_other_move_came_to_first(self):
        grown = Grown(net_of("a b; x: a > c; y: b > d; z: a b > c d; end: c d > e"))
        self.assertEqual(first_without(grown, "end", "x"), ["z", "end"])
        row = first_without(grown, "end", "z")
        self.assertEqual((sorted(row[:2]), row[2:]), (["x", "y"], ["end"]))

    def test_the_other_move_as_the_only_one_with_a_place(self):
        # Without the other move the net has fewer places.
        grown = Grown(net_of("a; go: a > b c d e; on: a > f; end: b c d e >"))
        self.assertIsNone(first_without(grown, "end", "go"))
        self.assertEqual(first_without(grown, "on", "go"), ["on"])
        self.assertEqual(first_without(grown, "end", "on"), ["go", "end"])

    def test_each_two_moves_as_searched(self):
        lengths, longer = [], 0
        for net in nets_of_many_sorts() + ring_nets(120)[70:]:
            grown, steps = Grown(net), counted_steps(net)
            for move, other in permutations(net.moves(), 2):
                fewest = fewest_with(without(steps, other), net.start(), move)
                self.held(net, first_without(grown, move, other), move, other, fewest)
                lengths.append(fewest)
                longer += fewest is not None and fewest > fewest_with(steps, net.start(), move)
        for length in (None, 1, 2, 3, 4):
            self.assertGreater(lengths.count(length), 50, length)
        self.assertGreater(longer, 50)

    def test_a_move_that_no_row_has(self):
        grown = Grown(net_of("a; stay: a > a; never: b > a; go: a > c"))
        self.assertIsNone(first_without(grown, "never", "stay"))
        self.assertEqual(first_without(grown, "go", "never"), ["go"])


class Needs(unittest.TestCase):
    def test_by_hand(self):
        for text, move, fewest, others in TOLD:
            with self.subTest((text, move)):
                told = needs(Grown(net_of(text)), move)
                self.assertEqual((type(told), told), (list, others))

    def test_each_move_as_searched(self):
        sizes = []
        for net in nets_of_many_sorts() + ring_nets(150)[70:]:
            grown, steps = Grown(net), counted_steps(net)
            for move in net.moves():
                others = [other for other in net.moves() if other != move
                          and fewest_with(without(steps, other), net.start(), move) is None]
                self.assertEqual(needs(grown, move), others, (parts_of(net), move))
                sizes.append(len(others) if first_of(grown, move) else None)
        for size in (None, 0, 1, 2):
            self.assertGreater(sizes.count(size), 50, size)

    def test_just_where_there_is_no_row_without(self):
        for text in RICH_NETS + TWO_WAYS_NETS + (FORK, ROUND, TWO_ROADS):
            grown = Grown(net_of(text))
            for move, other in permutations(grown.net().moves(), 2):
                self.assertIs(other in needs(grown, move), first_without(grown, move, other) is None)

    def test_a_move_that_no_row_has_among_twelve(self):
        moves = [("m" + place, [place], []) for place in "kjihgfedcba"]
        grown = Grown(Net(moves + [("vain", ["a", "l"], [])], list("abcdefghijk")))
        self.assertEqual(needs(grown, "vain"), ["m" + place for place in "abcdefghijk"])
        self.assertEqual(needs(grown, "ma"), [])

    def test_twelve_behind_one_another(self):
        places = "abcdefghijkl"
        net = Net([("m" + places[at], [places[at]], [places[(at + 1) % 12]]) for at in range(12)], ["c"])
        self.assertEqual(needs(Grown(net), "mb"), ["m" + place for place in "acdefghijkl"])
        self.assertEqual(needs(Grown(net), "mc"), [])


class Refused(unittest.TestCase):
    WORDS = ("nowhere", "a", "b", "", "GO", "go on", "muchtoolong", "f1")

    def test_what_is_no_move(self):
        for text in BARE_NETS + (FORK, ROUND):
            grown = Grown(net_of(text))
            for word in self.WORDS:
                for ask in (first_of, needs):
                    self.assertEqual(refusal_of(lambda: ask(grown, word)), ("NoMove", {"at": 0}), word)

    def test_one_of_two_is_no_move(self):
        for text in BARE_NETS + (FORK, ROUND):
            grown = Grown(net_of(text))
            for word in self.WORDS:
                for pair in [(word, "no")] + [(word, move) for move in grown.net().moves()]:
                    for move, other in (pair, pair[::-1]):
                        self.assertEqual(refusal_of(lambda: first_without(grown, move, other)), ("NoMove", {"at": 0}))

    def test_a_move_of_another_net(self):
        one, other = Grown(net_of("a; stay: a > a; go: a > b")), Grown(net_of("a; rest: a > a; go: a > b"))
        for ask in (first_of, needs, lambda grown, move: first_without(grown, "go", move)):
            self.assertEqual(refusal_of(lambda: ask(one, "rest")), ("NoMove", {"at": 0}))
            self.assertEqual(refusal_of(lambda: ask(other, "stay")), ("NoMove", {"at": 0}))
        self.assertEqual((first_of(one, "stay"), first_of(other, "rest")), (["stay"], ["rest"]))


class KeptApart(GrownAskedAgain, unittest.TestCase):
    texts = [told[0] for told in TOLD]

    def answers(self, grown):
        moves = grown.net().moves()
        return ([first_of(grown, move) for move in moves], [needs(grown, move) for move in moves],
                [first_without(grown, *pair) for pair in permutations(moves, 2)])


if __name__ == "__main__":
    unittest.main()
