import unittest

from helper import counted_crowding, counted_row, net_of, small_nets

from unfoldnet.errors import Full
from unfoldnet.nets import Net
from unfoldnet.play import crowding, played

RING = "".join(f"; m{one}: {one} > {other}" for one, other in zip("abcdefghijkl", "bcdefghijkla"))


class Crowding(unittest.TestCase):
    def crowds(self, text, size):
        net = net_of(text)
        row = crowding(net)
        self.assertIs(type(row), list)
        self.assertEqual(len(row), size)
        self.assertEqual(len(played(net, row[:-1])), size)
        with self.assertRaises(Full) as caught:
            played(net, row)
        self.assertEqual(caught.exception.at, size - 1)
        return row

    def test_nets_that_do_not_crowd(self):
        for text in ("", "a b", "a; go: a > b", "a b; go: a b > c", "a; out: a >", "; go: a > b"):
            self.assertIsNone(crowding(net_of(text)), text)

    def test_rings_of_places(self):
        self.assertIsNone(crowding(net_of("a" + RING)))
        self.assertIsNone(crowding(net_of(RING)))
        self.assertIsNone(crowding(net_of("a; go: a > b; on: b > a")))
        self.assertIsNone(crowding(net_of("a c; go: a > b; meet: b c > a d; on: d > c")))
        # Room for one thing: the free place keeps the full one from a second bead.
        self.assertIsNone(crowding(net_of("m free u; make: m free > m full; use: u full > u free")))

    def test_a_move_that_gives_where_it_takes(self):
        self.assertIsNone(crowding(net_of("a b; stay: a > a; both: a b > b a; c: b > b")))

    def test_a_lacking_bead_goes_ahead_of_a_second_one(self):
        self.assertIsNone(crowding(net_of("b; go: a > b")))
        self.assertIsNone(crowding(net_of("a b; go: a c > b")))

    def test_a_state_that_no_row_leads_to_does_not_count(self):
        self.assertIsNone(crowding(net_of("a; go: a > b; part: b > c; far: c d > a")))
        self.assertIsNone(crowding(net_of("a; go: a > b; x: a b > c; y: a c > b")))

    def test_a_row_of_one_move(self):
        self.assertEqual(self.crowds("a b; go: a > b", 1), ["go"])
        self.assertEqual(self.crowds("a b; go: a > c a b", 1), ["go"])
        self.assertEqual(self.crowds("a d; along: a > b; be: b > c; cry: c > d; zap: a > d", 1), ["zap"])

    def test_longer_rows(self):
        self.assertEqual(self.crowds("a; fork: a > b c; left: b > c", 2), ["fork", "left"])
        self.assertEqual(self.crowds("a; more: a > a b", 2), ["more", "more"])
        self.assertEqual(self.crowds("a d" + RING, 3), ["ma", "mb", "mc"])
        self.assertEqual(self.crowds("a l" + RING, 1), ["ml"])
        self.assertEqual(self.crowds("a k" + RING, 2), ["mk", "ml"])

    def test_a_long_row(self):
        chain = RING.rpartition(";")[0]
        self.assertEqual(self.crowds("a l" + chain, 11), ["m" + place for place in "abcdefghijk"])

    def test_as_few_moves_as_any(self):
        text = "a d; along: a > b; be: b > c; cry: c > d; zip: a > e; zoom: e > d"
        self.assertEqual(self.crowds(text, 2), ["zip", "zoom"])
        text = "a d; zalong: a > b; zbe: b > c; zcry: c > d; ip: a > e; oom: e > d"
        self.assertEqual(self.crowds(text, 2), ["ip", "oom"])

    def test_two_rows_are_as_short(self):
        self.assertIn(self.crowds("a b c; go: a > b; on: a > c", 1), (["go"], ["on"]))

    def test_a_list_told_and_changed_asked_again(self):
        net = net_of("a; fork: a > b c; left: b > c")
        row = crowding(net)
        row.append("x")
        row[0] = "y"
        self.assertEqual(crowding(net), ["fork", "left"])

    def test_asked_again_tells_the_same(self):
        net = net_of("a b c; go: a > b; on: a > c")
        row = crowding(net)
        self.assertEqual([crowding(net) for again in range(3)], [row] * 3)

    def test_many_states(self):
        moves = [("m" + place, [place], []) for place in "abcdefghijkl"]
        self.assertIsNone(crowding(Net(moves, list("abcdefghijkl"))))


class SmallNets(unittest.TestCase):
    def sizes_as_counted(self, places, moves, step):
        """Holds the program against counting, and tells which lengths came."""
        sizes = {}
        for made, start in small_nets(places, moves, step):
            size = counted_crowding(made, start, places)
            row = crowding(Net(made, start))
            self.assertEqual(None if row is None else len(row), size, (made, start))
            if row is not None:
                self.assertEqual(counted_row(made, start, row), ("Full", size - 1), (made, start))
            sizes[size] = True
        return sizes

    def test_all_of_two_places_and_two_moves(self):
        sizes = self.sizes_as_counted("ab", 2, 1)
        self.assertEqual(sorted(size or 0 for size in sizes), [0, 1, 2, 3])

    def test_some_of_three_places(self):
        sizes = self.sizes_as_counted("abc", 3, 457)
        for size in (None, 1, 2, 3, 4):
            self.assertIn(size, sizes)


if __name__ == "__main__":
    unittest.main()
