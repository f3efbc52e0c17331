import copy
import unittest
from itertools import product
from math import comb

from helper import (FORK, MIDDLE, RICH_NETS, ROUND, RowsRefused, counted_alike, counted_exchanges, counted_row,
                    free_nets, net_of, outcome_of, parts_of, refusal_of, ring_nets, rows_to_play, turned)

from unfoldnet.errors import TooMany
from unfoldnet.exchanges import exchanges, rows_of
from unfoldnet.nets import Net
from unfoldnet.weaves import row_levels

# Two beads that turn by themselves, and both at once.
TURNS = "a b; x: a > a; y: b > b; both: a b > a b"

# Eight moves, each two of them side by side.
APART = Net([("m" + place, [place], []) for place in "abcdefgh"], list("abcdefgh"))


def some_nets():
    return ([net_of(text) for text in RICH_NETS + (FORK, MIDDLE, ROUND, TURNS)] + free_nets("ab", 2, 11)
            + free_nets("abc", 3, 4999) + ring_nets(20))


def groups_of_rows(net, longest, most):
    """At most so many rows that can be played, in groups of those that have the same moves."""
    groups = {}
    for row in rows_to_play(net, longest)[:most]:
        groups.setdefault(tuple(sorted(row)), []).append(row)
    return list(groups.values())


def inversions(row, other):
    """In how many pairs two rows differ, the occurrences of each move being numbered."""
    def numbered(moves):
        return [(move, moves[:at].count(move)) for at, move in enumerate(moves)]

    places = [numbered(other).index(one) for one in numbered(row)]
    return sum(one > two for at, two in enumerate(places) for one in places[:at])


class Told(unittest.TestCase):
    def led(self, net, row, told):
        """The row to which exchanges lead, each of two neighbours that are side by side in the row as it is by then."""
        now = list(row)
        for number in told:
            self.assertIs(type(number), int)
            fitting = dict(counted_exchanges(net, now))
            self.assertIn(number, fitting, (parts_of(net), row, told, now))
            now = fitting[number]
        return now


class Exchanges(Told):
    def test_by_hand(self):
        net = net_of(MIDDLE)
        self.assertEqual(exchanges(net, ["x", "z"], ["z", "x"]), [0])
        self.assertEqual(exchanges(net, ["y", "x", "z", "y"], ["y", "z", "x", "y"]), [1])
        self.assertEqual(exchanges(net, ["x", "x", "z"], ["z", "x", "x"]), [1, 0])
        self.assertEqual(exchanges(net, ["z", "x", "x"], ["x", "x", "z"]), [0, 1])
        self.assertEqual(exchanges(net_of(ROUND), ["fork", "left", "right"], ["fork", "right", "left"]), [1])

    def test_a_row_and_itself(self):
        for net in some_nets():
            for row in rows_to_play(net, 4)[:16]:
                self.assertEqual(exchanges(net, row, list(row)), [])
                self.assertEqual(exchanges(net, row, row), [])

    def test_the_row_without_moves(self):
        for text in ("", "a b", "a; go: a > b", MIDDLE):
            self.assertEqual(exchanges(net_of(text), [], []), [])
        self.assertIsNone(exchanges(net_of(MIDDLE), [], ["x"]))
        self.assertIsNone(exchanges(net_of(MIDDLE), ["x"], []))

    def test_the_same_moves_but_not_alike(self):
        net = net_of(MIDDLE)
        for row, other in ((["x", "y"], ["y", "x"]), (["x", "y", "z"], ["x", "z", "y"]),
                           (["x", "y", "z"], ["z", "y", "x"]), (["x", "z", "y", "x"], ["x", "x", "y", "z"])):
            self.assertIsNone(exchanges(net, row, other))
            self.assertIsNone(exchanges(net, other, row))
        # The first level has the same moves, a later one has not.
        self.assertIsNone(exchanges(net, ["y", "x", "y", "z"], ["y", "z", "y", "x"]))

    def test_other_moves(self):
        net = net_of(ROUND)
        for row, other in ((["fork", "left"], ["fork", "lean"]), (["fork", "left"], ["fork", "right"]),
                           (["fork"], ["fork", "left"]), (["fork", "left", "right"], ["fork", "left"]),
                           (["fork", "left", "right"], ["fork", "right", "lean"])):
            self.assertIsNone(exchanges(net, row, other))
            self.assertIsNone(exchanges(net, other, row))
        self.assertIsNone(exchanges(net_of(TURNS), ["x", "x", "y"], ["x", "y", "y"]))

    def test_a_move_that_stands_several_times(self):
        net = net_of(TURNS)
        row, other = ["x", "x", "x", "y", "y", "both", "x", "y"], ["y", "x", "y", "x", "x", "both", "y", "x"]
        told = exchanges(net, row, other)
        self.assertEqual(self.led(net, row, told), other)
        self.assertEqual(len(told), inversions(row, other))
        self.assertEqual(len(told), 6)
        self.assertIsNone(exchanges(net, row, ["y", "x", "y", "x", "both", "x", "y", "x"]))

    def test_each_two_rows_of_the_same_moves_as_searched(self):
        lengths, strangers = [], 0
        for net in some_nets():
            for rows in groups_of_rows(net, 5, 110):
                for row in rows:
                    fewest = counted_alike(net, row)
                    for other in rows:
                        told = exchanges(net, row, other)
                        if tuple(other) in fewest:
                            self.assertEqual(self.led(net, row, told), other)
                            self.assertEqual(len(told), fewest[tuple(other)], (parts_of(net), row, other))
                            lengths.append(len(told))
                        else:
                            self.assertIsNone(told, (parts_of(net), row, other))
                            strangers += 1
        self.assertGreater(len([length for length in lengths if length > 2]), 300)
        self.assertGreater(strangers, 300)

    def test_all_that_are_alike_to_longer_rows(self):
        for text, row in ((TURNS, "x y x y both x y y"), (MIDDLE, "x z x z y x z"),
                          (ROUND, "fork left right join fork"),
                          (RICH_NETS[0], "one two three home meet three one two")):
            net, row = net_of(text), row.split()
            fewest = counted_alike(net, row)
            self.assertGreater(len(fewest), 1)
            for other in map(list, fewest):
                for first, second in ((row, other), (other, row)):
                    told = exchanges(net, first, second)
                    self.assertEqual(self.led(net, first, told), second)
                    self.assertEqual(len(told), fewest[tuple(other)])

    def test_alike_just_where_levels_are_equal(self):
        for net in [net_of(text) for text in RICH_NETS + (FORK, MIDDLE, ROUND, TURNS)] + ring_nets(8):
            told = [(row, row_levels(net, row)) for row in rows_to_play(net, 3)[:20]]
            for (row, levels), (other, others) in product(told, told):
                self.assertEqual(exchanges(net, row, other) is None, levels != others, (parts_of(net), row, other))

    def test_sixty_moves(self):
        net = net_of(TURNS)
        for row, other in ((["x"] * 30 + ["y"] * 30, ["y"] * 30 + ["x"] * 30),
                           (["x", "y"] * 30, ["y", "x"] * 30), (["x", "y"] * 30, ["x"] * 30 + ["y"] * 30)):
            told = exchanges(net, row, other)
            self.assertEqual(self.led(net, row, told), other)
            self.assertEqual(len(told), inversions(row, other))
        self.assertEqual(len(exchanges(net, ["x"] * 30 + ["y"] * 30, ["y"] * 30 + ["x"] * 30)), 900)

    def test_moves_all_side_by_side(self):
        net, row = APART, APART.moves()
        told = exchanges(net, row, row[::-1])
        self.assertEqual(len(told), comb(8, 2))
        self.assertEqual(self.led(net, row, told), row[::-1])


class RowsOf(unittest.TestCase):
    def test_by_hand(self):
        net = net_of(MIDDLE)
        self.assertEqual(rows_of(net, ["z", "x", "y"]), [["x", "z", "y"], ["z", "x", "y"]])
        self.assertEqual(rows_of(net, ["z", "y", "x"]), [["z", "y", "x"]])
        self.assertEqual(rows_of(net, ["z", "x", "x"]), [["x", "x", "z"], ["x", "z", "x"], ["z", "x", "x"]])
        self.assertEqual(rows_of(net, ["x", "x", "x"]), [["x", "x", "x"]])
        net = net_of("i j k l; b: i >; ab: j >; a: k >")
        self.assertEqual(rows_of(net, ["b", "ab", "a"]), [["a", "ab", "b"], ["a", "b", "ab"], ["ab", "a", "b"],
                                                          ["ab", "b", "a"], ["b", "a", "ab"], ["b", "ab", "a"]])

    def test_the_row_without_moves_and_rows_of_one(self):
        for text in ("", "a b", "a; go: a > b", MIDDLE):
            self.assertEqual(rows_of(net_of(text), []), [[]])
        self.assertEqual(rows_of(net_of(MIDDLE), ["y"]), [["y"]])

    def test_kinds(self):
        told = rows_of(net_of(MIDDLE), ["z", "x"])
        self.assertEqual((type(told), [type(row) for row in told]), (list, [list, list]))

    def test_as_searched(self):
        several = 0
        for net in some_nets():
            for row in rows_to_play(net, 5)[:100]:
                told = rows_of(net, row)
                self.assertEqual(told, [list(other) for other in sorted(counted_alike(net, row))], (parts_of(net), row))
                several += len(told) > 2
        self.assertGreater(several, 200)

    def test_each_of_them_tells_the_same(self):
        net = net_of(TURNS)
        told = rows_of(net, ["x", "y", "x", "both", "y", "x"])
        self.assertEqual(len(told), 6)
        for row in told:
            self.assertEqual(rows_of(net, row), told)
            self.assertIsInstance(counted_row(*parts_of(net), row), list)

    def test_how_many(self):
        # In rows of x and y alone, as many as there are ways to choose the numbers of the one; between two `both`
        # the rows go by themselves.
        net = net_of(TURNS)
        for ones, others in ((1, 1), (5, 3), (10, 2), (4, 4), (23, 2), (2, 23), (59, 1)):
            row = ["x"] * ones + ["y"] * others
            told = rows_of(net, row)
            self.assertEqual(len(told), comb(ones + others, ones))
            self.assertEqual(told, sorted(told))
            self.assertEqual(len({tuple(other) for other in told}), len(told))

    def test_just_three_hundred_and_one_more(self):
        net = net_of(TURNS)
        self.assertEqual(len(rows_of(net, ["x"] * 12 + ["y", "both"] + ["x"] * 22 + ["y"])), 13 * 23)
        self.assertEqual(len(rows_of(net, ["x"] * 23 + ["y"] * 2)), 300)
        self.assertEqual(len(rows_of(net, ["x"] * 9 + ["y", "both"] + ["x"] * 29 + ["y"])), 300)
        with self.assertRaises(TooMany):
            rows_of(net, ["x"] * 6 + ["y", "both"] + ["x"] * 42 + ["y"])
        with self.assertRaises(TooMany):
            rows_of(net, ["y", "both"] + ["x"] * 24 + ["y"] * 2)

    def test_far_more(self):
        for net, row in ((net_of(TURNS), ["x"] * 30 + ["y"] * 30), (net_of(TURNS), ["x", "y"] * 30),
                         (APART, APART.moves()), (APART, APART.moves()[:6])):
            kept = list(row)
            self.assertEqual(refusal_of(lambda: rows_of(net, row)), ("TooMany", {}))
            self.assertEqual(row, kept)
        self.assertEqual(len(rows_of(APART, APART.moves()[:5])), 120)

    def test_too_many_by_those_that_are_alike_alone(self):
        # Sixty moves one behind the other are alike to themselves alone.
        net = net_of(TURNS)
        for row in (["x"] * 60, ["both", "x"] * 30, ["both"] * 60):
            self.assertEqual(rows_of(net, row), [row])


class Refused(RowsRefused, unittest.TestCase):
    def asks(self, net, row):
        return [lambda: rows_of(net, row), lambda: exchanges(net, row, []), lambda: exchanges(net, [], row),
                lambda: exchanges(net, row, row)]

    def test_the_first_row_s_goes_first(self):
        net = net_of(FORK)
        pairs = [(["left", "lean"], ("Held", 1)), (["left", "mid", "no"], ("NoMove", 2)), (["no"], ("NoMove", 0)),
                 (["join"], ("Held", 0))]
        for row, refusal in pairs:
            for other, second in pairs + [(["left"], None), ([], None)]:
                self.assertEqual(outcome_of(lambda: exchanges(net, row, other)), refusal)
                if second is None:
                    self.assertEqual(outcome_of(lambda: exchanges(net, other, row)), refusal)

    def test_refused_whatever_the_other_row_has(self):
        # The two have unlike moves, so that None would be told at once; or the same moves, in an order to be played.
        net = net_of(ROUND)
        self.assertEqual(outcome_of(lambda: exchanges(net, ["fork", "left"], ["left", "fork"])), ("Held", 0))
        self.assertEqual(outcome_of(lambda: exchanges(net, ["left", "fork"], ["fork", "left"])), ("Held", 0))
        self.assertEqual(outcome_of(lambda: exchanges(net, ["fork"], ["fork", "left", "lean"])), ("Held", 2))
        self.assertEqual(outcome_of(lambda: exchanges(net, ["fork"], ["fork", "no"])), ("NoMove", 1))

    def test_held_ahead_of_too_many(self):
        net = net_of("a b c; x: a > a; y: b > b; z: c d > c")
        row = ["x"] * 28 + ["y"] * 28
        self.assertEqual(refusal_of(lambda: rows_of(net, row)), ("TooMany", {}))
        self.assertEqual(refusal_of(lambda: rows_of(net, row + ["z"])), ("Held", {"at": 56}))
        self.assertEqual(refusal_of(lambda: rows_of(net, row + ["no"])), ("NoMove", {"at": 56}))


class KeptApart(unittest.TestCase):
    def test_the_rows_handed_in(self):
        net = net_of(MIDDLE)
        row, other = ["x", "x", "z"], ["z", "x", "x"]
        told, rows = exchanges(net, row, other), rows_of(net, row)
        self.assertEqual((row, other), (["x", "x", "z"], ["z", "x", "x"]))
        row.clear()
        other[0] = "y"
        self.assertEqual(told, [1, 0])
        self.assertEqual(rows, [["x", "x", "z"], ["x", "z", "x"], ["z", "x", "x"]])

    def test_the_lists_told(self):
        net = net_of(MIDDLE)
        row, other = ["x", "x", "z"], ["z", "x", "x"]
        for turn in range(3):
            told, rows, none = exchanges(net, row, other), rows_of(net, row), exchanges(net, row, row)
            self.assertEqual(told, [1, 0])
            self.assertEqual(rows, [["x", "x", "z"], ["x", "z", "x"], ["z", "x", "x"]])
            self.assertEqual(none, [])
            told.append(7)
            none.append(7)
            for one in rows:
                one.append("y")
            rows.clear()
            self.assertEqual((row, other), (["x", "x", "z"], ["z", "x", "x"]))
        only = rows_of(net, ["y"])
        only[0].append("x")
        self.assertEqual(rows_of(net, ["y"]), [["y"]])

    def test_the_net_stays_as_it_was(self):
        net = net_of(TURNS)
        before = copy.deepcopy(parts_of(net))
        exchanges(net, ["x", "y"], ["y", "x"])
        rows_of(net, ["x", "y"])
        self.assertEqual(parts_of(net), before)

    def test_nets_by_turns_and_in_other_orders(self):
        nets = [net_of(text) for text in RICH_NETS + (FORK, MIDDLE, ROUND, TURNS)]
        rows = [rows_to_play(net, 4)[-1] for net in nets]
        told = [rows_of(net, row) for net, row in zip(nets, rows)]
        ways = [exchanges(net, row, kin[0]) for net, row, kin in zip(nets, rows, told)]
        for net, row, kin, way in reversed(list(zip(nets, rows, told, ways))):
            for other in [net] + turned(net):
                self.assertEqual((rows_of(other, row), exchanges(other, row, kin[0])), (kin, way))


if __name__ == "__main__":
    unittest.main()
