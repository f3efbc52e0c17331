import copy
import unittest
from itertools import product

from helper import (BARE_NETS, FORK, MIDDLE, RICH_NETS, ROUND, counted_row, free_nets, net_of, outcome_of, parts_of,
                    refusal_of, ring_net, ring_nets, rows_to_play, small_nets, turned)

from unfoldnet.hands import half, poured, shaken
from unfoldnet.nets import Net
from unfoldnet.play import crowding, played

# hop is a move of both.
LEFT = "a b; walk: a > c; hop: b c > a b"
RIGHT = "x z; hop: x > y; run: y > x; stop: z >"

# The nets of a pair have no common place, and no, some or all moves in common.
PAIRS = [
    (LEFT, RIGHT),
    ("a; go: a > b; on: b > a", "c; go: c > d; on: d > c"),
    ("a; go: a > b; on: b > a", "c; on: c > d; go: d > c"),
    ("a; go: a > b; on: b > a", "c; up: c > d; down: d > c"),
    ("a b; go: a > a; on: b > b; off: a b > a", "c; on: c > d; off: d > c; go: c > c"),
    ("a; go: a > a; end: a >", "; go: b > c; on: c > b"),
    ("", "a; go: a > b"),
    ("a b", "c; go: c > d; on: d > c"),
    ("", ""),
    # The moves and the places have the same names.
    ("a; c: a > b; d: b > a", "c; a: c > d; d: d > c"),
]

# Some of these crowd.
CROWDED_PAIRS = [
    ("a b; go: a > b; on: b >", "c; go: c > c; on: c > d"),
    ("a; go: a > b a; end: b >", "c d; end: c > d; go: d > d; turn: d >"),
]


def renamed(net, places, moves):
    """A net like this one, with other names."""
    made, start = parts_of(net)
    return Net([(moves.get(name, name), [places[place] for place in takes], [places[place] for place in gives])
                for name, takes, gives in made], [places[place] for place in start])


def pairs_of_nets(crowding_too):
    """Pairs of nets without a common place that make a net together."""
    pairs = [(net_of(one), net_of(other)) for one, other in PAIRS + CROWDED_PAIRS * crowding_too]
    small = [Net(*made) for made in small_nets("ab", 2, 5)] if crowding_too else free_nets("ab", 2, 3)
    for number, net in enumerate(small):
        kin = small[(number * 7 + 3) % len(small)]
        # One, both or none of its moves are of both nets.
        names = ({"walk": "go"}, {"walk": "run", "run": "walk"}, {"walk": "go", "run": "stop"})[number % 3]
        pairs.append((net, renamed(kin, {"a": "p", "b": "q"}, names)))
    for seed in range(30):
        kin = ring_net(seed + 100, 2, 2, 3)
        pairs.append((ring_net(seed, 2, 2, 3), renamed(kin, {place: "k" + place for place in kin.places()}, {})))
    return pairs


def parts_together(one, other):
    """The lists of which the net of two nets is made."""
    (moves, start), (others, more) = parts_of(one), parts_of(other)
    table = {}
    for name, takes, gives in moves + others:
        ahead = table.get(name, (name, [], []))
        table[name] = (name, sorted(ahead[1] + takes), sorted(ahead[2] + gives))
    return [table[name] for name in sorted(table)], sorted(start + more)


def common_in(one, other, row):
    """The moves of a row that both nets have, in their order."""
    return [move for move in row if move in one.moves() and move in other.moves()]


def plays(net, row):
    """Whether a row can be played."""
    return isinstance(counted_row(*parts_of(net), row), list)


class Shaken(unittest.TestCase):
    def test_by_hand(self):
        net = shaken(net_of(LEFT), net_of(RIGHT))
        self.assertIs(type(net), Net)
        self.assertEqual(net.places(), ["a", "b", "c", "x", "y", "z"])
        self.assertEqual(net.moves(), ["hop", "run", "stop", "walk"])
        self.assertEqual((net.takes("hop"), net.gives("hop")), (["b", "c", "x"], ["a", "b", "y"]))
        self.assertEqual((net.takes("walk"), net.gives("walk")), (["a"], ["c"]))
        self.assertEqual((net.takes("run"), net.gives("run")), (["y"], ["x"]))
        self.assertEqual((net.takes("stop"), net.gives("stop")), (["z"], []))
        self.assertEqual(net.start(), ("a", "b", "x", "z"))

    def test_many_pairs_in_either_order(self):
        common = set()
        for one, other in pairs_of_nets(True):
            told = [shaken(one, other), shaken(other, one)]
            self.assertEqual([parts_of(net) for net in told], [parts_together(one, other)] * 2)
            self.assertEqual(told[0].places(), sorted(one.places() + other.places()))
            common.add(len(set(one.moves()) & set(other.moves())))
        self.assertEqual(common, {0, 1, 2, 3})

    def test_a_net_without_anything(self):
        empty = Net([], [])
        for text in BARE_NETS + RICH_NETS + (FORK, MIDDLE, ROUND):
            net = net_of(text)
            self.assertEqual(parts_of(shaken(net, empty)), parts_of(net))
            self.assertEqual(parts_of(shaken(empty, net)), parts_of(net))
        self.assertEqual(parts_of(shaken(empty, empty)), ([], []))

    def test_the_places_stay_where_a_bead_lies_that_no_move_takes(self):
        net = shaken(Net([], ["b", "a"]), Net([("go", ["c"], [])], []))
        self.assertEqual((net.places(), net.moves(), net.start()), (["a", "b", "c"], ["go"], ("a", "b")))

    def test_a_common_place(self):
        ones = ("a", "; go: a > b", "; go: b > a", "c; go: c > a", "a c; go: c > b; on: a > b")
        others = ("a", "a d", "; on: a > d", "; on: d > a", "d; go: d > e a")
        for one, other in product(ones, others):
            for pair in ((one, other), (other, one)):
                self.assertEqual(refusal_of(lambda: shaken(*map(net_of, pair))), ("NoNet", {}), pair)

    def test_with_itself(self):
        for text in BARE_NETS[1:] + RICH_NETS + (FORK, MIDDLE):
            net = net_of(text)
            self.assertEqual(refusal_of(lambda: shaken(net, net)), ("NoNet", {}), text)

    def test_a_place_and_a_move_may_have_the_same_name(self):
        net = shaken(net_of("a; b: a > c"), net_of("b; a: b > d; c: d > b"))
        self.assertEqual((net.places(), net.moves()), (["a", "b", "c", "d"], ["a", "b", "c"]))

    def test_too_many_places(self):
        one = Net([], list("abcdef"))
        self.assertEqual(len(shaken(one, Net([], list("ghijkl"))).places()), 12)
        self.assertEqual(refusal_of(lambda: shaken(one, Net([], list("ghijklm")))), ("NoNet", {}))
        one = Net([("go", ["a"], ["b", "c", "d", "e"]), ("on", ["e"], ["f", "g"])], [])
        self.assertEqual(len(shaken(one, Net([("off", ["p"], ["q", "r", "s"])], ["t"])).places()), 12)
        other = Net([("off", ["p"], ["q", "r", "s"])], ["t", "u"])
        self.assertEqual(refusal_of(lambda: shaken(one, other)), ("NoNet", {}))
        self.assertEqual(refusal_of(lambda: shaken(other, one)), ("NoNet", {}))

    def test_too_many_moves(self):
        def net(place, names):
            return Net([(name, [place], [place]) for name in names], [place])

        self.assertEqual(shaken(net("a", "abcdef"), net("b", "ghijkl")).moves(), list("abcdefghijkl"))
        self.assertEqual(refusal_of(lambda: shaken(net("a", "abcdef"), net("b", "ghijklm"))), ("NoNet", {}))
        # Common moves count once.
        self.assertEqual(shaken(net("a", "abcdefghijkl"), net("b", "lkjihgfedcba")).moves(), list("abcdefghijkl"))
        self.assertEqual(shaken(net("a", "abcdefghijk"), net("b", "ijkl")).moves(), list("abcdefghijkl"))
        self.assertEqual(refusal_of(lambda: shaken(net("a", "abcdefghijk"), net("b", "ijklm"))), ("NoNet", {}))

    def test_too_many_places_of_a_common_move(self):
        def net(places, taken, given, name="go"):
            return Net([(name, list(places[:taken]), list(places[:given]))], [])

        for ones, others in product(range(1, 5), repeat=2):
            for less in range(0, 5):
                one, other = net("abcd", ones, less), net("efgh", others, 4 - less)
                if ones + others <= 4:
                    told = shaken(one, other)
                    self.assertEqual((len(told.takes("go")), len(told.gives("go"))), (ones + others, 4))
                else:
                    self.assertEqual(refusal_of(lambda: shaken(one, other)), ("NoNet", {}))
                # Two moves do not add up.
                self.assertEqual(shaken(one, net("efgh", others, 4 - less, "on")).moves(), ["go", "on"])
        for less, more in product(range(5), repeat=2):
            refusal = refusal_of(lambda: shaken(net("abcd", 1, less), net("efgh", 2, more)))
            self.assertEqual(refusal, ("NoNet", {}) if less + more > 4 else None)

    def test_a_row_is_played_just_where_both_halves_are(self):
        found = {True: 0, False: 0}
        for one, other in pairs_of_nets(True):
            both = shaken(one, other)
            for size in range(5 if len(both.moves()) < 4 else 4):
                for row in map(list, product(both.moves(), repeat=size)):
                    expected = all(plays(net, [move for move in row if move in net.moves()]) for net in (one, other))
                    self.assertIs(plays(both, row), expected, (parts_of(one), parts_of(other), row))
                    found[expected] += 1
                    if expected:
                        ends = [played(net, half(net, row))[-1] for net in (one, other)]
                        self.assertEqual(played(both, row)[-1], tuple(sorted(ends[0] + ends[1])))
        self.assertGreater(min(found.values()), 500)

    def test_what_crowds(self):
        # The net of two that do not crowd does not; where one crowds, its move may wait for the other net.
        for one, other in pairs_of_nets(False):
            self.assertIsNone(crowding(shaken(one, other)), (parts_of(one), parts_of(other)))
        for one, other in ((net_of(RICH_NETS[2]), net_of("a b; make: a > b; use: b > a")),
                           (net_of(FORK), net_of("x y; left: x > y x; mid: y > y"))):
            self.assertEqual(crowding(shaken(one, other)) is None, crowding(one) is None and crowding(other) is None)
        one, other = net_of("a b; go: a > b"), net_of("; go: c >")
        self.assertEqual((crowding(one), crowding(other), crowding(shaken(one, other))), (["go"], None, None))

    def test_three_nets(self):
        one, other, third = net_of(LEFT), net_of(RIGHT), net_of("p; hop: p > p; run: p > q; back: q > p")
        self.assertEqual(parts_of(shaken(shaken(one, other), third)), parts_of(shaken(one, shaken(other, third))))


class Half(unittest.TestCase):
    def test_by_hand(self):
        one, other = net_of(LEFT), net_of(RIGHT)
        row = ["walk", "run", "hop", "stop", "hop", "fly", "walk", "run"]
        self.assertEqual(half(one, row), ["walk", "hop", "hop", "walk"])
        self.assertEqual(half(other, row), ["run", "hop", "stop", "hop", "run"])
        self.assertEqual(half(shaken(one, other), row), [move for move in row if move != "fly"])

    def test_names_that_are_no_moves(self):
        # Places are no moves; the row need not be one that can be played.
        self.assertEqual(half(net_of(LEFT), ["a", "b", "x", "fly", "c"]), [])
        self.assertEqual(half(net_of("a; c: a > b"), ["a", "c", "b", "c", "c"]), ["c", "c", "c"])
        self.assertEqual(half(Net([], []), ["a", "go"]), [])

    def test_rows_without_moves(self):
        for text in BARE_NETS + (LEFT, RIGHT):
            self.assertEqual(half(net_of(text), []), [])

    def test_all_moves_of_the_net(self):
        for text in RICH_NETS + (FORK, MIDDLE):
            net = net_of(text)
            for row in rows_to_play(net, 3) + [net.moves(), net.moves()[::-1] * 2]:
                self.assertEqual(half(net, row), row)
                self.assertEqual(half(net, ["zz"] + row + ["zz"]), row)


class Poured(unittest.TestCase):
    def held(self, one, other, first, second):
        """Holds what is told of two rows against their halves and play; tells whether a row is."""
        row = poured(one, other, first, second)
        place = (parts_of(one), parts_of(other), first, second, row)
        if common_in(one, other, first) != common_in(one, other, second):
            self.assertIsNone(row, place)
            return False
        self.assertIs(type(row), list, place)
        self.assertEqual([move for move in row if move in one.moves()], first, place)
        self.assertEqual([move for move in row if move in other.moves()], second, place)
        self.assertEqual(len(row), len(first) + len(second) - len(common_in(one, other, first)), place)
        self.assertTrue(plays(shaken(one, other), row), place)
        return True

    def test_by_hand(self):
        one, other = net_of(LEFT), net_of(RIGHT)
        for first, second, told in (("", "", True), ("walk", "", True), ("walk hop", "hop run stop", True),
                                    ("walk hop walk hop", "hop run hop", True), ("walk hop", "", False),
                                    ("walk", "hop", False), ("walk hop walk hop walk", "hop", False),
                                    ("walk hop walk hop walk", "hop run stop hop run", True)):
            self.assertIs(self.held(one, other, first.split(), second.split()), told)
        self.assertEqual(poured(one, other, ["walk", "hop"], ["hop"]), ["walk", "hop"])
        self.assertEqual(poured(one, other, [], []), [])

    def test_the_same_common_moves_in_another_order(self):
        one, other = net_of("a b; go: a > a; on: b > b"), net_of("c d; on: c > c; go: d > d; off: c > c")
        self.assertFalse(self.held(one, other, ["go", "on"], ["on", "go"]))
        self.assertFalse(self.held(one, other, ["go", "on", "go"], ["off", "go", "go", "on"]))
        self.assertTrue(self.held(one, other, ["go", "on", "go"], ["off", "go", "on", "off", "off", "go", "off"]))

    def test_no_common_moves(self):
        one, other = net_of("a; go: a > a"), net_of("b; on: b > b")
        for first, second in product(range(4), repeat=2):
            self.assertTrue(self.held(one, other, ["go"] * first, ["on"] * second))

    def test_each_two_short_rows(self):
        found = {True: 0, False: 0}
        for one, other in pairs_of_nets(True):
            rows = [rows_to_play(net, 3)[:40] for net in (one, other)]
            for first, second in product(*rows):
                found[self.held(one, other, first, second)] += 1
                self.assertEqual(self.held(other, one, second, first), poured(one, other, first, second) is not None)
        self.assertGreater(min(found.values()), 500)

    def test_the_halves_of_rows_of_the_net_of_both(self):
        for one, other in pairs_of_nets(False):
            for row in rows_to_play(shaken(one, other), 5)[-25:]:
                self.assertTrue(self.held(one, other, half(one, row), half(other, row)))

    def test_sixty_moves(self):
        one, other = net_of("a; go: a > a; on: a > a"), net_of("b; go: b > b; off: b > b")
        self.assertTrue(self.held(one, other, ["on", "go"] * 30, ["go", "off"] * 30))
        self.assertTrue(self.held(one, other, ["go"] * 60, ["go"] * 60))
        self.assertFalse(self.held(one, other, ["go"] * 60, ["go"] * 59 + ["off"]))


class PouredRefused(unittest.TestCase):
    def test_no_net_goes_ahead(self):
        one = net_of(LEFT)
        moves = [("m" + sign, ["p"], ["p"]) for sign in "abcdefghijk"]
        others = [one, net_of("c"), Net([], list("defghijklm")), Net(moves, ["p"]), net_of("p q r; hop: p q r > p"),
                  net_of("p; hop: p > p q r")]
        for other in others:
            for first, second in product(([], ["walk"], ["fly"], ["hop"]), repeat=2):
                self.assertEqual(refusal_of(lambda: poured(one, other, first, second)), ("NoNet", {}))
                self.assertEqual(refusal_of(lambda: poured(other, one, first, second)), ("NoNet", {}))

    def test_the_first_row_s_goes_ahead(self):
        one, other = net_of(LEFT), net_of(RIGHT)
        bad = [(["fly"], ("NoMove", 0)), (["walk", "walk"], ("Held", 1)), (["walk", "run"], ("NoMove", 1)),
               (["walk", "hop", "hop"], ("Held", 2)), (["walk", "hop", "a"], ("NoMove", 2))]
        worse = [(["run"], ("Held", 0)), (["hop", "walk"], ("NoMove", 1)), (["hop", "run", "hop", "hop"], ("Held", 3))]
        for first, refusal in bad:
            for second in [row for row, told in worse] + [[], ["hop"]]:
                self.assertEqual(outcome_of(lambda: poured(one, other, first, second)), refusal)
        for second, refusal in worse:
            for first in ([], ["walk"], ["walk", "hop"]):
                self.assertEqual(outcome_of(lambda: poured(one, other, first, second)), refusal)
            for first, told in bad:
                self.assertEqual(outcome_of(lambda: poured(other, one, second, first)), refusal)

    def test_full(self):
        one, other = net_of("a b; go: a > b; stay: a > a"), net_of("c; go: d > c; on: c > c")
        self.assertEqual(outcome_of(lambda: poured(one, other, ["stay", "go"], [])), ("Full", 1))
        self.assertEqual(outcome_of(lambda: poured(one, other, ["go"], ["go"])), ("Full", 0))
        self.assertEqual(outcome_of(lambda: poured(other, one, ["on"], ["stay", "stay", "go"])), ("Full", 2))
        self.assertEqual(outcome_of(lambda: poured(other, one, ["on", "go"], ["go"])), ("Held", 1))

    def test_a_move_of_the_other_net(self):
        one, other = net_of(LEFT), net_of(RIGHT)
        self.assertEqual(outcome_of(lambda: poured(one, other, ["walk", "run"], [])), ("NoMove", 1))
        self.assertEqual(outcome_of(lambda: poured(one, other, [], ["walk"])), ("NoMove", 0))

    def test_all_short_rows_as_counted(self):
        kinds = set()
        for one, other in [(net_of(LEFT), net_of(RIGHT)), (net_of(PAIRS[2][0]), net_of(PAIRS[2][1]))] + [
                tuple(map(net_of, pair)) for pair in CROWDED_PAIRS]:
            names = sorted(set(one.moves() + other.moves())) + ["no"]
            rows = [list(row) for size in range(3) for row in product(names, repeat=size)]
            for first, second in product(rows, rows[::3] + rows[1::3]):
                outcomes = [counted_row(*parts_of(one), first), counted_row(*parts_of(other), second)]
                refused = [outcome for outcome in outcomes if isinstance(outcome, tuple)]
                told = outcome_of(lambda: poured(one, other, first, second))
                if refused:
                    self.assertEqual(told, refused[0], (first, second))
                    kinds.add(refused[0])
                else:
                    self.assertNotIsInstance(told, tuple)
        self.assertEqual(kinds, {(kind, at) for kind in ("NoMove", "Held", "Full") for at in (0, 1)})


class KeptApart(unittest.TestCase):
    def test_nets_and_rows_stay_as_they_were(self):
        for one, other in pairs_of_nets(True)[::3]:
            before = copy.deepcopy((parts_of(one), parts_of(other)))
            first, second = rows_to_play(one, 3)[-1], rows_to_play(other, 3)[-1]
            rows = copy.deepcopy((first, second))
            shaken(one, other)
            half(one, second)
            poured(one, other, first, second)
            self.assertEqual((parts_of(one), parts_of(other)), before)
            self.assertEqual((first, second), rows)

    def test_told_lists_changed_between(self):
        one, other = net_of(LEFT), net_of(RIGHT)
        first, second = ["walk", "hop"], ["hop", "run"]
        for turn in range(3):
            net = shaken(one, other)
            self.assertEqual(parts_of(net), parts_together(one, other))
            net.takes("hop").append("q")
            net.places().clear()
            for told, expected in ((half(one, first), ["walk", "hop"]), (half(other, first), ["hop"]),
                                   (poured(one, other, first, second), ["walk", "hop", "run"]),
                                   (poured(one, other, ["walk"], []), ["walk"]), (poured(one, other, [], []), [])):
                self.assertEqual(told, expected)
                told.append("fly")
                told[0] = "hop"
            self.assertEqual((first, second), (["walk", "hop"], ["hop", "run"]))

    def test_a_row_told_is_not_a_row_handed_in(self):
        one, other = net_of("a; go: a > a"), net_of("b; on: b > b")
        go, on, none = ["go"], ["on"], []
        for told in (poured(one, other, go, none), poured(one, other, none, on), half(one, go), half(other, on)):
            told.append("x")
        self.assertEqual((go, on, none), (["go"], ["on"], []))

    def test_nets_in_other_orders(self):
        for one, other in pairs_of_nets(False)[:10] + [(ring_nets(1)[0], net_of("a; ab: a > b; z: b > a"))]:
            expected = parts_of(shaken(one, other))
            for like, kin in product(turned(one), turned(other)):
                self.assertEqual(parts_of(shaken(like, kin)), expected)


if __name__ == "__main__":
    unittest.main()
