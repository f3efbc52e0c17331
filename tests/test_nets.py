import copy
import unittest

from unfoldnet.errors import NoMove, NoNet
from unfoldnet.nets import Net

TWELVE = list("abcdefghijkl")
NO_NAMES = ["", "ninefolds", "Go", "a b", " ", "a1", "a-b", "\u00e4"]


def told(net):
    """All that a net tells."""
    moves = {move: (net.takes(move), net.gives(move)) for move in net.moves()}
    return net.places(), net.moves(), net.start(), moves


class Nets(unittest.TestCase):
    def refused(self, moves, start):
        with self.assertRaises(NoNet):
            Net(moves, start)

    def test_what_is_told_is_rising(self):
        net = Net([("out", ["c", "a"], []), ("go", ["d", "b", "a"], ["e", "c"]), ("in", ["e"], ["b", "a"])],
                  ["f", "b", "a"])
        self.assertEqual(net.places(), ["a", "b", "c", "d", "e", "f"])
        self.assertEqual(net.moves(), ["go", "in", "out"])
        self.assertEqual(net.start(), ("a", "b", "f"))
        self.assertEqual([net.takes(move) for move in net.moves()], [["a", "b", "d"], ["e"], ["a", "c"]])
        self.assertEqual([net.gives(move) for move in net.moves()], [["c", "e"], ["a", "b"], []])

    def test_the_order_of_the_lists_is_free(self):
        one = Net([("x", ["a", "b"], ["c", "d"]), ("y", ["c"], [])], ["a", "b"])
        other = Net([("y", ["c"], []), ("x", ["b", "a"], ["d", "c"])], ["b", "a"])
        self.assertEqual(told(one), told(other))

    def test_longer_names_are_sorted_as_texts(self):
        net = Net([("b", ["z", "ab", "a"], ["b", "aa"]), ("ab", ["z"], [])], ["zz", "abc"])
        self.assertEqual(net.places(), ["a", "aa", "ab", "abc", "b", "z", "zz"])
        self.assertEqual(net.moves(), ["ab", "b"])
        self.assertEqual(net.start(), ("abc", "zz"))

    def test_kinds(self):
        net = Net([("go", ["a"], ["b"])], ["a"])
        for told_list in (net.places(), net.moves(), net.takes("go"), net.gives("go")):
            self.assertIs(type(told_list), list)
        self.assertIs(type(net.start()), tuple)

    def test_places_of_each_list_are_places(self):
        self.assertEqual(Net([("go", ["a"], ["b"])], ["c"]).places(), ["a", "b", "c"])
        self.assertEqual(Net([("go", ["a"], [])], []).places(), ["a"])
        self.assertEqual(Net([("go", ["a"], ["b"])], []).places(), ["a", "b"])
        self.assertEqual(Net([], ["c"]).places(), ["c"])

    def test_a_place_and_a_move_with_the_same_name(self):
        net = Net([("a", ["a"], ["b"]), ("b", ["b"], ["a"])], ["a"])
        self.assertEqual(told(net), (["a", "b"], ["a", "b"], ("a",), {"a": (["a"], ["b"]), "b": (["b"], ["a"])}))

    def test_a_move_that_gives_to_a_place_from_which_it_takes(self):
        net = Net([("stay", ["b", "a"], ["a", "c"])], ["a"])
        self.assertEqual((net.takes("stay"), net.gives("stay")), (["a", "b"], ["a", "c"]))

    def test_two_moves_with_the_same_lists(self):
        net = Net([("one", ["a"], ["b"]), ("two", ["a"], ["b"])], ["a"])
        self.assertEqual(net.moves(), ["one", "two"])

    def test_a_net_without_moves_or_places(self):
        self.assertEqual(told(Net([], [])), ([], [], (), {}))
        self.assertEqual(told(Net([], ["b", "a"])), (["a", "b"], [], ("a", "b"), {}))
        self.assertEqual(told(Net([("go", ["a"], [])], [])), (["a"], ["go"], (), {"go": (["a"], [])}))

    def test_twelve_places_and_one_more(self):
        self.assertEqual(Net([], TWELVE).places(), TWELVE)
        self.refused([], TWELVE + ["m"])
        moves = [("x", TWELVE[:4], TWELVE[4:8])]
        self.assertEqual(Net(moves, TWELVE[8:]).places(), TWELVE)
        self.refused(moves, TWELVE[8:] + ["m"])
        self.refused(moves + [("y", ["m"], ["a"])], TWELVE[8:])
        self.refused(moves + [("y", ["a"], ["m"])], TWELVE[8:])

    def test_a_place_of_several_lists_counts_once(self):
        moves = [("x", TWELVE[:4], TWELVE[:4]), ("y", TWELVE[4:8], TWELVE[:4])]
        self.assertEqual(Net(moves, TWELVE).places(), TWELVE)

    def test_twelve_moves_and_one_more(self):
        moves = [(name, ["a"], ["b"]) for name in TWELVE]
        self.assertEqual(Net(moves, []).moves(), TWELVE)
        self.refused(moves + [("m", ["a"], ["b"])], [])

    def test_no_place_taken(self):
        self.refused([("go", [], ["a"])], [])
        self.refused([("go", [], [])], ["a"])
        self.refused([("on", ["a"], ["b"]), ("go", [], ["a"])], ["a"])

    def test_one_and_four_and_five_places_taken(self):
        for size in (1, 2, 3, 4):
            self.assertEqual(Net([("go", TWELVE[:size], ["a"])], []).takes("go"), TWELVE[:size])
        self.refused([("go", TWELVE[:5], ["a"])], [])
        self.refused([("go", TWELVE[:5], [])], TWELVE[:5])

    def test_none_and_four_and_five_places_given(self):
        for size in (0, 1, 2, 3, 4):
            self.assertEqual(Net([("go", ["a"], TWELVE[:size])], []).gives("go"), TWELVE[:size])
        self.refused([("go", ["a"], TWELVE[:5])], [])
        self.refused([("on", ["a"], ["b"]), ("go", ["a"], TWELVE[:5])], ["a"])

    def test_a_place_twice_in_a_list(self):
        self.refused([("go", ["a", "a"], ["b"])], ["a"])
        self.refused([("go", ["a", "b", "a"], [])], ["a"])
        self.refused([("go", ["a"], ["b", "b"])], ["a"])
        self.refused([("go", ["a"], ["b", "c", "b"])], ["a"])
        self.refused([("go", ["a"], ["b"])], ["a", "a"])
        self.refused([], ["a", "b", "a"])
        self.refused([("go", ["a"], ["b"]), ("on", ["b"], ["c", "c"])], ["a"])

    def test_a_name_of_a_move_twice(self):
        self.refused([("go", ["a"], ["b"]), ("go", ["b"], ["a"])], ["a"])
        self.refused([("go", ["a"], ["b"]), ("go", ["a"], ["b"])], ["a"])
        self.refused([("go", ["a"], []), ("on", ["a"], []), ("go", ["b"], [])], [])

    def test_texts_that_are_no_names(self):
        for text in NO_NAMES:
            with self.subTest(text):
                self.refused([(text, ["a"], ["b"])], ["a"])
                self.refused([("go", [text], ["b"])], ["a"])
                self.refused([("go", ["a", text], ["b"])], ["a"])
                self.refused([("go", ["a"], [text])], ["a"])
                self.refused([("go", ["a"], ["b", text])], ["a"])
                self.refused([("go", ["a"], ["b"])], [text])
                self.refused([("go", ["a"], ["b"])], ["a", text])
                self.refused([], [text])
                self.refused([("go", ["a"], ["b"]), (text, ["b"], ["a"])], ["a"])

    def test_takes_and_gives_of_no_move(self):
        net = Net([("go", ["a"], ["b"]), ("on", ["b"], [])], ["a"])
        for text in ["a", "b", "g", "goo", "og"] + NO_NAMES:
            for ask in (net.takes, net.gives):
                with self.subTest(text), self.assertRaises(NoMove) as caught:
                    ask(text)
                self.assertEqual(caught.exception.at, 0)
                self.assertIs(type(caught.exception.at), int)

    def test_lists_handed_in_stay_as_they_were(self):
        moves = [("on", ["c", "b"], ["d", "a"]), ("go", ["b", "a"], ["c"])]
        start = ["b", "a"]
        kept = copy.deepcopy((moves, start))
        net = Net(moves, start)
        told(net)
        self.assertEqual((moves, start), kept)
        with self.assertRaises(NoNet):
            Net(moves, start + ["a"])
        self.assertEqual((moves, start), kept)

    def test_lists_handed_in_and_changed_behind(self):
        moves = [("go", ["b", "a"], ["c"]), ("on", ["c"], ["d", "a"])]
        start = ["b", "a"]
        net = Net(moves, start)
        before = copy.deepcopy(told(net))
        moves[0][1].append("x")
        moves[0][2].clear()
        moves[1][2][0] = "y"
        moves.append(("far", ["d"], []))
        start.append("z")
        self.assertEqual(told(net), before)

    def test_lists_told_and_changed(self):
        net = Net([("go", ["b", "a"], ["c"]), ("on", ["c"], ["d", "a"])], ["b", "a"])
        before = copy.deepcopy(told(net))
        for told_list in (net.places(), net.moves(), net.takes("go"), net.gives("go"), net.gives("on")):
            told_list.append("x")
            told_list[0] = "y"
        self.assertEqual(told(net), before)

    def test_nets_do_not_share_what_they_keep(self):
        one = Net([("go", ["a"], ["b"])], ["a"])
        other = Net([("on", ["c"], ["d"])], ["d"])
        self.assertEqual(told(one), (["a", "b"], ["go"], ("a",), {"go": (["a"], ["b"])}))
        self.assertEqual(told(other), (["c", "d"], ["on"], ("d",), {"on": (["c"], ["d"])}))


if __name__ == "__main__":
    unittest.main()
