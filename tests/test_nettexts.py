import unittest

from helper import RICH_NETS, net_of, small_nets

from unfoldnet.errors import NoNet, NoText
from unfoldnet.nets import Net
from unfoldnet.nettexts import net_text, read_net

WHOLE = "start a b; go: a b > c; out: c >"


def told(net):
    """All that a net tells."""
    moves = [(move, net.takes(move), net.gives(move)) for move in net.moves()]
    return net.places(), net.start(), moves


class Written(unittest.TestCase):
    def test_the_text_of_the_document(self):
        net = Net([("go", ["a", "b"], ["c"]), ("out", ["c"], [])], ["a", "b"])
        self.assertEqual(net_text(net), WHOLE)
        self.assertIs(type(net_text(net)), str)

    def test_moves_and_places_are_written_sorted(self):
        net = Net([("out", ["d", "c"], ["b", "aa", "a"]), ("go", ["b", "a"], ["d", "c"])], ["b", "ab", "a"])
        self.assertEqual(net_text(net), "start a ab b; go: a b > c d; out: c d > a aa b")

    def test_nets_that_lack_something(self):
        self.assertEqual(net_text(Net([], [])), "start")
        self.assertEqual(net_text(Net([], ["b", "a"])), "start a b")
        self.assertEqual(net_text(Net([("go", ["a"], ["b"])], [])), "start; go: a > b")
        self.assertEqual(net_text(Net([("go", ["a"], [])], [])), "start; go: a >")

    def test_names_that_are_words_of_the_text(self):
        net = Net([("start", ["start", "go"], ["start"])], ["start"])
        self.assertEqual(net_text(net), "start start; start: go start > start")

    def test_asked_again(self):
        net = net_of("a b; go: a b > c; out: c >")
        self.assertEqual([net_text(net), net_text(net)], [WHOLE, WHOLE])
        self.assertEqual(told(net), (["a", "b", "c"], ("a", "b"), [("go", ["a", "b"], ["c"]), ("out", ["c"], [])]))


class Read(unittest.TestCase):
    def test_the_text_of_the_document(self):
        net = read_net(WHOLE)
        self.assertIsInstance(net, Net)
        self.assertEqual(told(net), (["a", "b", "c"], ("a", "b"), [("go", ["a", "b"], ["c"]), ("out", ["c"], [])]))
        self.assertEqual(net_text(net), WHOLE)

    def test_any_order_is_read(self):
        net = read_net("start b a; out: c >; go: b a > d c")
        self.assertEqual(net_text(net), "start a b; go: a b > c d; out: c >")

    def test_nets_that_lack_something(self):
        self.assertEqual(told(read_net("start")), ([], (), []))
        self.assertEqual(told(read_net("start a")), (["a"], ("a",), []))
        self.assertEqual(told(read_net("start; go: a > b")), (["a", "b"], (), [("go", ["a"], ["b"])]))
        self.assertEqual(told(read_net("start; go: a >")), (["a"], (), [("go", ["a"], [])]))

    def test_names_that_are_words_of_the_text(self):
        self.assertEqual(told(read_net("start start")), (["start"], ("start",), []))
        text = "start start; start: start > go"
        self.assertEqual(told(read_net(text)), (["go", "start"], ("start",), [("start", ["start"], ["go"])]))
        self.assertEqual(net_text(read_net(text)), text)

    def test_the_longest_names(self):
        text = "start eightfol; abcdefgh: eightfol > zzzzzzzz"
        self.assertEqual(net_text(read_net(text)), text)

    def test_as_many_places_and_moves_as_may_be(self):
        places = "abcdefghijkl"
        moves = "".join(f"; m{place}: {place} > a" for place in places)
        text = "start " + " ".join(places) + moves
        self.assertEqual(net_text(read_net(text)), text)
        text = "start; go: a b c d > e f g h"
        self.assertEqual(net_text(read_net(text)), text)

    def test_there_and_back(self):
        for text in RICH_NETS:
            net = net_of(text)
            self.assertEqual(told(read_net(net_text(net))), told(net))
        for moves, start in small_nets("ab", 2, 1):
            net = Net(moves, start)
            self.assertEqual(told(read_net(net_text(net))), told(net))


class Refused(unittest.TestCase):
    def no_text(self, thing):
        with self.subTest(thing), self.assertRaises(NoText):
            read_net(thing)

    def no_net(self, text):
        with self.subTest(text), self.assertRaises(NoNet):
            read_net(text)

    def test_a_blank_too_many_or_too_few(self):
        for text in (" " + WHOLE, WHOLE + " ", "start ", " start", "start  a", "start a ", "start a ; go: a > b",
                     "start a;  go: a > b", "start a; go:  a > b", "start a; go: a  > b", "start a; go: a >  b",
                     "start a; go: a > b ", "start a; go: a > ", "start a; go : a > b", "start a; go:a > b",
                     "start a; go: a> b", "start a; go: a >b", "start a; go: a>b", "start a; go:> b",
                     "start a; go: a b> c", "start a;go: a > b", "start a; go: a > b;on: b > a", "starta",
                     "start a; go: a > b ; on: b > a", "start ; go: a > b", "start a; go:  > b"):
            self.no_text(text)

    def test_other_white_signs(self):
        for text in ("start\ta", "start a\n", "\nstart", "start a;\ngo: a > b", "start a; go:\ta > b",
                     "start a; go: a\u00a0> b", "start a; go: a > b\n"):
            self.no_text(text)

    def test_without_the_first_part(self):
        for text in ("", " ", "; ", ";", "go: a > b", "; go: a > b", "a b; go: a b > c", "Start a", "begin a",
                     "start: a > b", "go: a > b; start a", "startle a", "a start"):
            self.no_text(text)

    def test_an_empty_part(self):
        for text in ("start; ", "start;", "start a; ", "start a; ; go: a > b", WHOLE + "; ", WHOLE + ";",
                     "start a;; go: a > b", "; start a"):
            self.no_text(text)

    def test_a_part_without_its_signs(self):
        for text in ("start a; go a > b", "start a; go a b", "start a; go: a b", "start a; go:", "start a; go",
                     "start a; : a > b", "start a; > b", "start a; a > b", "start a; go:: a > b",
                     "start a; go: a > b > c", "start a; go: a > > b", "start a; go: > >", "start a; go: a >> b",
                     "start a; go: on: a > b", "start a; go: a: > b", "start a > b", "start: a", "start a:",
                     "start a; start a", "start a; start", "start a; go: a > b, c", "start a, b"):
            self.no_text(text)

    def test_words_that_are_no_names(self):
        for word in ("ninefolds", "Go", "a1", "1", "a-b", "\u00e4", "a.b", "A", "a_b", "-", "a;b"):
            self.no_text(f"start {word}")
            self.no_text(f"start a {word}; go: a > b")
            self.no_text(f"start a; {word}: a > b")
            self.no_text(f"start a; go: {word} > b")
            self.no_text(f"start a; go: a > {word}")
            self.no_text(f"start a; go: a b > c {word}; on: a > b")

    def test_things_that_are_no_text(self):
        for thing in (None, True, 0, 7, 1.5, b"start", [], ["start"], ("start",), {}, {"start": "a"}, object(), str,
                      Net([], []), ["start", "go: a > b"]):
            self.no_text(thing)

    def test_what_makes_no_net(self):
        for text in ("start a a", "start a b a", "start a; go: a a > b", "start a; go: a > b b",
                     "start a; go: a > b; go: b > a", "start a; go: a > b; go: a > b",
                     "start a; go: > b", "start; go: >", "start a; go: a b c d e > a", "start; go: a > a b c d e",
                     "start a b c d e f g h i j k l m", "start a b c d e f g h i j k l; go: a > m",
                     "start" + "".join(f"; {name}: a > b" for name in "abcdefghijklm")):
            self.no_net(text)

    def test_no_text_goes_ahead_of_no_net(self):
        for text in ("start a a ", "start a a; go: a b", "start a; go: > b; on: a >  b", "start a; go: > b; on",
                     "start a; go: a > b; go: a > b; ", "start a b c d e f g h i j k l m; Go: a > b",
                     "start a; go: a > a b c d E", "start a; go: > > b", "start a a a1"):
            self.no_text(text)


if __name__ == "__main__":
    unittest.main()
