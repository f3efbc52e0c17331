import copy
import unittest

from helper import (FORK, MIDDLE, RICH_NETS, ROUND, RowsRefused, counted_alike, counted_causes, counted_exchanges,
                    counted_levels, counted_row, counted_weave, free_nets, names_of, net_of, parts_of, ring_nets,
                    rows_to_play, told_by)

from unfoldnet.cuts import followed, state_of
from unfoldnet.troops import flaw
from unfoldnet.weaves import row_levels, woven
from unfoldnet.webs import Web


def some_nets():
    return ([net_of(text) for text in RICH_NETS + (FORK, MIDDLE, ROUND)] + free_nets("ab", 2, 7)
            + free_nets("abc", 3, 2999) + ring_nets(20))


class Woven(unittest.TestCase):
    def test_a_row(self):
        web = woven(net_of(ROUND), ["fork", "right", "lean", "join", "fork", "left"])
        self.assertEqual(web.occurrences(), [("fork", (0,)), ("right", (2,)), ("lean", (1,)), ("join", (3, 4)),
                                             ("fork", (5,)), ("left", (6,))])
        self.assertEqual(web.spots(), [("a", None), ("b", 0), ("c", 0), ("e", 1), ("d", 2), ("a", 3), ("b", 4),
                                       ("c", 4), ("d", 5)])

    def test_the_same_move_again_and_again(self):
        web = woven(net_of("a b; stay: a > a; both: a b > b a"), ["stay", "both", "stay", "stay"])
        self.assertEqual(web.occurrences(), [("stay", (0,)), ("both", (1, 2)), ("stay", (3,)), ("stay", (5,))])
        self.assertEqual(web.spots(), [("a", None), ("b", None), ("a", 0), ("a", 1), ("b", 1), ("a", 2), ("a", 3)])

    def test_the_row_without_moves(self):
        for text, spots in (("", []), ("b a; go: a > c", [("a", None), ("b", None)]), ("; go: a > b", [])):
            web = woven(net_of(text), [])
            self.assertEqual(told_by(web), (spots, []))

    def test_none_but_the_row_s_occurrences(self):
        web = woven(net_of(FORK), ["mid"])
        self.assertEqual(told_by(web), ([("a", None), ("b", None), ("e", 0)], [("mid", (1,))]))

    def test_it_is_a_web_of_the_net(self):
        net = net_of(FORK)
        web = woven(net, ["mid", "left"])
        self.assertIsInstance(web, Web)
        self.assertIs(web.net(), net)
        self.assertEqual(web.come("join", [2, 3]), 2)

    def test_all_short_rows_as_counted(self):
        count = 0
        for net in some_nets():
            for row in rows_to_play(net, 5)[:250]:
                web = woven(net, row)
                self.assertEqual(told_by(web), counted_weave(net, row), row)
                count += 1
        self.assertGreater(count, 3000)

    def test_the_whole_is_a_troop_with_the_row_s_last_state(self):
        for net in some_nets():
            moves, start = parts_of(net)
            for row in rows_to_play(net, 4)[:80]:
                web = woven(net, row)
                whole = list(range(len(row)))
                self.assertIsNone(flaw(web, whole))
                self.assertEqual(state_of(web, whole), counted_row(moves, start, row)[-1])
                self.assertEqual(followed(web, row), whole)

    def test_sixty_moves(self):
        net = net_of(ROUND)
        row = ["fork", "left", "right", "join", "fork", "right", "lean", "join"] * 7 + ["fork", "right", "left", "join"]
        self.assertEqual(told_by(woven(net, row)), counted_weave(net, row))


class RowLevels(unittest.TestCase):
    def test_a_row(self):
        net = net_of(ROUND)
        self.assertEqual(row_levels(net, ["fork"]), [["fork"]])
        self.assertEqual(row_levels(net, ["fork", "right", "lean", "join", "fork", "left"]),
                         [["fork"], ["lean", "right"], ["join"], ["fork"], ["left"]])

    def test_levels_of_one_and_the_same_moves(self):
        net = net_of(MIDDLE)
        self.assertEqual(row_levels(net, ["x", "y", "z"]), [["x"], ["y"], ["z"]])
        self.assertEqual(row_levels(net, ["x", "z", "y"]), [["x", "z"], ["y"]])
        self.assertEqual(row_levels(net, ["z", "x", "y"]), [["x", "z"], ["y"]])
        self.assertEqual(row_levels(net, ["y", "z", "x"]), [["y"], ["x", "z"]])
        self.assertEqual(row_levels(net, ["z", "z", "x", "x"]), [["x", "z"], ["x", "z"]])

    def test_the_row_without_moves(self):
        for text in ("", "a b", "a; go: a > b"):
            self.assertEqual(row_levels(net_of(text), []), [])

    def test_names_are_sorted_as_texts(self):
        net = net_of("i j k l; b: i > m; ab: j > n; a: k > o; z: l > p")
        self.assertEqual(row_levels(net, ["z", "b", "ab", "a"]), [["a", "ab", "b", "z"]])

    def test_kinds(self):
        told = row_levels(net_of(MIDDLE), ["x", "z", "y"])
        self.assertEqual((type(told), [type(level) for level in told]), (list, [list, list]))

    def test_as_counted(self):
        for net in some_nets():
            for row in rows_to_play(net, 5)[:120]:
                web = woven(net, row)
                expected = [names_of(web, level) for level in counted_levels(web, list(range(len(row))))]
                self.assertEqual(row_levels(net, row), expected, row)

    def test_sixty_moves(self):
        net = net_of("a b; stay: a > a; turn: b > b")
        self.assertEqual(row_levels(net, ["stay", "turn"] * 30), [["stay", "turn"]] * 30)
        self.assertEqual(row_levels(net, ["turn"] * 30 + ["stay"] * 30), [["stay", "turn"]] * 30)
        self.assertEqual(row_levels(net, ["turn"] * 20 + ["stay"] * 40), [["stay", "turn"]] * 20 + [["stay"]] * 20)


class Alike(unittest.TestCase):
    def test_exchanged_rows_have_the_same_levels(self):
        count = 0
        for net in some_nets():
            moves, start = parts_of(net)
            for row in rows_to_play(net, 5)[:120]:
                for at, other in counted_exchanges(net, row):
                    states = counted_row(moves, start, other)
                    self.assertIsInstance(states, list, (row, other))
                    self.assertEqual(states[-1], counted_row(moves, start, row)[-1])
                    self.assertEqual(row_levels(net, row), row_levels(net, other), (row, other))
                    count += 1
        self.assertGreater(count, 500)

    def test_neighbours_that_are_not_side_by_side(self):
        net = net_of(MIDDLE)
        self.assertEqual(counted_exchanges(net, ["x", "y"]), [])
        self.assertEqual(counted_exchanges(net, ["x", "z"]), [(0, ["z", "x"])])
        self.assertNotEqual(row_levels(net, ["x", "y"]), row_levels(net, ["y", "x"]))
        self.assertEqual(row_levels(net, ["x", "z"]), row_levels(net, ["z", "x"]))

    def test_rows_are_alike_just_where_their_levels_are_equal(self):
        several = 0
        for net in some_nets():
            rows = [row for row in rows_to_play(net, 5)[:200]]
            by_levels = {}
            for row in rows:
                by_levels.setdefault(str(row_levels(net, row)), []).append(row)
            for group in by_levels.values():
                kin = counted_alike(net, group[0])
                for row in group:
                    self.assertIn(tuple(row), kin, (group[0], row))
                strangers = [row for row in rows if len(row) == len(group[0]) and row not in group]
                for row in strangers:
                    self.assertNotIn(tuple(row), kin, (group[0], row))
                several += len(group) > 1
        self.assertGreater(several, 100)

    def test_neighbours_beside_one_another_in_the_web(self):
        # The later one takes no spot of the earlier one just where the earlier one is no cause of it.
        for net in some_nets()[:12]:
            for row in rows_to_play(net, 4)[:60]:
                web = woven(net, row)
                free = [at for at in range(len(row) - 1) if at not in counted_causes(web, at + 1)]
                self.assertEqual(len(free), len(counted_exchanges(net, row)))


class Refused(RowsRefused, unittest.TestCase):
    def asks(self, net, row):
        return [lambda: woven(net, row), lambda: row_levels(net, row)]


class KeptApart(unittest.TestCase):
    def test_the_row_handed_in(self):
        net = net_of(MIDDLE)
        row = ["x", "z", "y"]
        web, told = woven(net, row), row_levels(net, row)
        self.assertEqual(row, ["x", "z", "y"])
        before = copy.deepcopy(told_by(web))
        row[0] = "y"
        row.append("z")
        self.assertEqual(told_by(web), before)
        self.assertEqual(told, [["x", "z"], ["y"]])
        row.clear()
        self.assertEqual(told_by(web), before)

    def test_the_lists_told(self):
        net = net_of(MIDDLE)
        told = row_levels(net, ["x", "z", "y"])
        told[0].append("n")
        told.append(["n"])
        self.assertEqual(row_levels(net, ["x", "z", "y"]), [["x", "z"], ["y"]])
        row_levels(net, []).append(["n"])
        self.assertEqual(row_levels(net, []), [])

    def test_webs_of_one_row_have_nothing_in_common(self):
        net = net_of(MIDDLE)
        one, other = woven(net, ["x"]), woven(net, ["x"])
        before = copy.deepcopy(told_by(other))
        one.come("z", [2, 4])
        self.assertEqual(told_by(other), before)
        self.assertEqual(told_by(woven(net, ["x"])), before)

    def test_the_net_stays_as_it_was(self):
        net = net_of(ROUND)
        before = copy.deepcopy(parts_of(net))
        woven(net, ["fork", "left"])
        row_levels(net, ["fork", "left"])
        self.assertEqual(parts_of(net), before)


if __name__ == "__main__":
    unittest.main()
