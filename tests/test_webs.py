import copy
import unittest
from itertools import product

from helper import (RICH_NETS, counted_beside, counted_come, counted_crowding, counted_row, net_of, refusal_of,
                    rich_webs, small_nets, small_webs, told_by, web_again, web_of)

from unfoldnet.errors import Crowded
from unfoldnet.nets import Net
from unfoldnet.relations import causes, comings, relation, spots_beside
from unfoldnet.webs import Web

# Its web has clashes, causes and side by side within a few comings.
CROSS = "a b; go: a > c; on: b > d; by: b > e; meet: c d > a b"


def all_told(web):
    """All that is told of a web, by itself and by its relations."""
    occurrences, spots = range(len(web.occurrences())), range(len(web.spots()))
    words = [relation(web, one, other) for one in occurrences for other in occurrences]
    beside = [spots_beside(web, one, other) for one in spots for other in spots]
    return told_by(web), comings(web), words, beside, [causes(web, one) for one in occurrences]


class AtFirst(unittest.TestCase):
    def test_a_spot_for_each_bead_and_no_occurrence(self):
        web = Web(net_of("c a; go: a c > b"))
        self.assertEqual(told_by(web), ([("a", None), ("c", None)], []))

    def test_places_are_sorted_as_texts(self):
        web = Web(Net([], ["b", "ab", "a", "z", "aa"]))
        self.assertEqual(web.spots(), [(place, None) for place in ("a", "aa", "ab", "b", "z")])

    def test_nets_that_lack_something(self):
        for text in ("", "; go: a > b"):
            web = Web(net_of(text))
            self.assertEqual(told_by(web), ([], []))
            self.assertEqual(comings(web), [])

    def test_the_net_is_told(self):
        net = net_of(CROSS)
        web = Web(net)
        self.assertIs(web.net(), net)
        web.come("go", [0])
        self.assertIs(web.net(), net)

    def test_kinds(self):
        web = web_of(CROSS, [("go", [0])])
        self.assertIs(type(web.spots()), list)
        self.assertIs(type(web.occurrences()), list)
        self.assertEqual([type(spot) for spot in web.spots()], [tuple] * 3)
        move, spots = web.occurrences()[0]
        self.assertEqual((type(move), type(spots), type(spots[0])), (str, tuple, int))
        self.assertEqual((type(web.spots()[2][1]), web.spots()[0][1]), (int, None))

    def test_the_net_stays_as_it_was(self):
        net = net_of(CROSS)
        before = (net.places(), net.moves(), net.start())
        web = Web(net)
        web.come("on", [1])
        self.assertEqual((net.places(), net.moves(), net.start()), before)


class Coming(unittest.TestCase):
    def test_behind_each_of_several_comings(self):
        web = Web(net_of(CROSS))
        spots, occurrences = web.spots(), []
        steps = [("go", [0], ["c"]), ("on", [1], ["d"]), ("by", [1], ["e"]), ("meet", [3, 2], ["a", "b"]),
                 ("go", [5], ["c"]), ("by", [6], ["e"])]
        for number, (move, taken, given) in enumerate(steps):
            told = web.come(move, taken)
            self.assertEqual((told, type(told)), (number, int))
            spots = spots + [(place, number) for place in given]
            occurrences = occurrences + [(move, tuple(sorted(taken)))]
            self.assertEqual(told_by(web), (spots, occurrences))

    def test_given_places_are_sorted(self):
        web = web_of("z; go: z > c ab a b", [("go", [0])])
        self.assertEqual(web.spots(), [("z", None), ("a", 0), ("ab", 0), ("b", 0), ("c", 0)])

    def test_spots_are_told_rising_though_their_places_are_not(self):
        # The bead in z was there ahead of that in a: the spot of a has the greater number.
        web = web_of("b z; go: b > a; join: a z > b", [("go", [0]), ("join", [2, 1])])
        self.assertEqual(web.occurrences()[1], ("join", (1, 2)))

    def test_a_move_that_gives_to_a_place_from_which_it_takes(self):
        web = Web(net_of("a b; stay: a b > b"))
        self.assertEqual(web.come("stay", [0, 1]), 0)
        self.assertEqual(told_by(web), ([("a", None), ("b", None), ("b", 0)], [("stay", (0, 1))]))
        self.assertEqual(comings(web), [])

    def test_a_move_that_gives_back_all_it_takes(self):
        web = Web(net_of("a; stay: a > a"))
        for number in range(5):
            self.assertEqual(web.come("stay", [number]), number)
        self.assertEqual(web.spots(), [("a", None)] + [("a", number) for number in range(5)])
        self.assertEqual(web.occurrences(), [("stay", (number,)) for number in range(5)])

    def test_a_move_that_gives_nothing(self):
        web = Web(net_of("a; end: a >"))
        self.assertEqual(web.come("end", [0]), 0)
        self.assertEqual(told_by(web), ([("a", None)], [("end", (0,))]))

    def test_a_spot_taken_by_several_occurrences(self):
        web = web_of("a; one: a > b; two: a > b; three: a >", [("two", [0]), ("three", [0]), ("one", [0])])
        self.assertEqual(web.occurrences(), [("two", (0,)), ("three", (0,)), ("one", (0,))])
        self.assertEqual(web.spots(), [("a", None), ("b", 0), ("b", 2)])

    def test_a_move_comes_again_with_other_spots(self):
        steps = [("one", [0]), ("two", [0]), ("on", [1]), ("on", [2])]
        web = web_of("a; one: a > b; two: a > b; on: b > c", steps)
        self.assertEqual(web.occurrences(), [("one", (0,)), ("two", (0,)), ("on", (1,)), ("on", (2,))])

    def test_a_place_and_a_move_with_the_same_name(self):
        web = web_of("a; a: a > b; b: b > a", [("a", [0]), ("b", [1])])
        self.assertEqual(told_by(web), ([("a", None), ("b", 0), ("a", 1)], [("a", (0,)), ("b", (1,))]))

    def test_spots_in_any_order(self):
        for order in ([0, 1, 2, 3], [3, 2, 1, 0], [2, 0, 3, 1]):
            web = Web(net_of("a b c d; all: a b c d > e"))
            web.come("all", order)
            self.assertEqual(web.occurrences(), [("all", (0, 1, 2, 3))])

    def test_two_hundred_comings(self):
        web = Web(net_of("a b; stay: a > a; turn: b > b"))
        for number in range(100):
            web.come("stay", [2 * number])
            web.come("turn", [2 * number + 1])
        self.assertEqual(len(web.occurrences()), 200)
        self.assertEqual(web.spots()[-2:], [("a", 198), ("b", 199)])
        self.assertEqual(relation(web, 0, 198), "before")
        self.assertEqual(relation(web, 198, 199), "beside")
        self.assertEqual(comings(web), [("stay", (200,)), ("turn", (201,))])


class Refused(unittest.TestCase):
    def refused(self, web, move, spots, name, values):
        before, kept = copy.deepcopy(all_told(web)), list(spots)
        with self.subTest((move, spots)):
            self.assertEqual(refusal_of(lambda: web.come(move, spots)), (name, values))
            self.assertEqual(spots, kept)
            self.assertEqual(all_told(web), before)

    def test_no_move(self):
        web = Web(net_of(CROSS))
        for move in ("nowhere", "a", "", "GO", "go "):
            self.refused(web, move, [0], "NoMove", {"at": 0})

    def test_no_spot(self):
        web = web_of(CROSS, [("go", [0])])
        for spot in (-1, -2, -3, -4, 3, 4, 99, -99):
            self.refused(web, "go", [spot], "NoSpot", {})
            self.refused(web, "meet", [2, spot], "NoSpot", {})
            self.refused(web, "meet", [spot, 2], "NoSpot", {})

    def test_misfit(self):
        web = web_of(CROSS, [("go", [0]), ("on", [1])])
        for move, spots in (("go", []), ("go", [1]), ("go", [0, 1]), ("go", [0, 0]), ("meet", [2]), ("meet", [3]),
                            ("meet", [2, 2]), ("meet", [2, 3, 3]), ("meet", [2, 3, 0]), ("meet", [0, 1]), ("by", [2])):
            self.refused(web, move, spots, "Misfit", {})

    def test_apart_by_a_clash(self):
        web = web_of("a; one: a > b; two: a > c; meet: b c > d", [("two", [0]), ("one", [0])])
        self.refused(web, "meet", [1, 2], "Apart", {"one": 1, "other": 2})
        self.refused(web, "meet", [2, 1], "Apart", {"one": 1, "other": 2})

    def test_apart_by_a_taking(self):
        web = web_of("a; go: a > b; meet: b a > c; far: a c > b; next: b > c", [("go", [0]), ("next", [1])])
        self.refused(web, "meet", [1, 0], "Apart", {"one": 0, "other": 1})
        self.refused(web, "far", [2, 0], "Apart", {"one": 0, "other": 2})

    def test_apart_by_clashes_farther_off(self):
        text = "a; one: a > b; two: a > c; on: b > d; off: c > e; meet: d e > f; mix: d c > f"
        web = web_of(text, [("one", [0]), ("two", [0]), ("on", [1]), ("off", [2])])
        self.refused(web, "meet", [3, 4], "Apart", {"one": 3, "other": 4})
        self.refused(web, "mix", [3, 2], "Apart", {"one": 2, "other": 3})

    def test_just_two_of_several_are_apart(self):
        text = "a b; one: b > c; two: b > d; on: a > e; all: a c d > f; far: c d e > f"
        web = web_of(text, [("one", [1]), ("two", [1])])
        self.refused(web, "all", [3, 0, 2], "Apart", {"one": 2, "other": 3})
        web.come("on", [0])
        self.refused(web, "far", [4, 3, 2], "Apart", {"one": 2, "other": 3})
        web = web_of(text, [("one", [1]), ("on", [0]), ("two", [1])])
        self.refused(web, "far", [2, 3, 4], "Apart", {"one": 2, "other": 4})

    def test_twice(self):
        web = web_of(CROSS, [("on", [1]), ("go", [0]), ("meet", [2, 3])])
        self.refused(web, "on", [1], "Twice", {"number": 0})
        self.refused(web, "go", [0], "Twice", {"number": 1})
        self.refused(web, "meet", [2, 3], "Twice", {"number": 2})
        self.refused(web, "meet", [3, 2], "Twice", {"number": 2})

    def test_the_first_named_goes_first(self):
        steps = [("one", [0]), ("two", [0])]
        web = web_of("a; one: a > b; two: a > c; meet: b c > d; three: a b c > d", steps)
        self.refused(web, "nowhere", [99], "NoMove", {"at": 0})
        self.refused(web, "nowhere", [], "NoMove", {"at": 0})
        self.refused(web, "nowhere", [0], "NoMove", {"at": 0})
        self.refused(web, "one", [0, 3], "NoSpot", {})
        self.refused(web, "one", [1, -1], "NoSpot", {})
        self.refused(web, "meet", [1, 2, 3], "NoSpot", {})
        self.refused(web, "meet", [0, 1], "Misfit", {})
        self.refused(web, "meet", [0, 1, 2], "Misfit", {})
        self.refused(web, "one", [0, 0], "Misfit", {})

    def test_the_truth_is_told_of_apart_where_several_two_are(self):
        web = web_of("a; one: a > b; two: a > c; three: a b c > d", [("one", [0]), ("two", [0])])
        name, values = refusal_of(lambda: web.come("three", [2, 1, 0]))
        self.assertEqual(name, "Apart")
        self.assertIn((values["one"], values["other"]), [(0, 1), (0, 2), (1, 2)])

    def test_what_is_refused_does_not_hinder_what_comes_then(self):
        web = Web(net_of(CROSS))
        for spots in ([-1], [9], [1], [0, 1]):
            self.assertIsNotNone(refusal_of(lambda: web.come("go", spots)))
        self.assertEqual(web.come("go", [0]), 0)
        self.assertIsNotNone(refusal_of(lambda: web.come("go", [0])))
        self.assertEqual(web.come("on", [1]), 1)
        self.assertEqual(web.spots(), [("a", None), ("b", None), ("c", 0), ("d", 1)])


class Crowding(unittest.TestCase):
    def test_a_net_that_crowds_is_refused(self):
        for text, row in (("a b; go: a > b", ["go"]), ("a; fork: a > b c; left: b > c", ["fork", "left"]),
                          ("a; more: a > a b", ["more", "more"]),
                          ("a d; along: a > b; be: b > c; cry: c > d; zip: a > e; zoom: e > d", ["zip", "zoom"])):
            net = net_of(text)
            for again in range(2):
                with self.assertRaises(Crowded) as caught:
                    Web(net)
                self.assertEqual(caught.exception.row, row)
                self.assertIs(type(caught.exception.row), list)
                caught.exception.row.append("x")

    def test_small_nets_are_refused_just_where_they_crowd(self):
        for made, start in small_nets("abc", 2, 7):
            size = counted_crowding(made, start, "abc")
            refusal = refusal_of(lambda: Web(Net(made, start)))
            if size is None:
                self.assertIsNone(refusal, (made, start))
            else:
                self.assertEqual(refusal[0], "Crowded", (made, start))
                row = refusal[1]["row"]
                self.assertEqual(len(row), size, (made, start))
                self.assertEqual(counted_row(made, start, row), ("Full", size - 1), (made, start))


class KeptApart(unittest.TestCase):
    def test_the_list_handed_in(self):
        web = Web(net_of("a b; join: a b > c; on: c >"))
        spots = [1, 0]
        web.come("join", spots)
        self.assertEqual(spots, [1, 0])
        before = all_told(web)
        spots.append(2)
        spots[0] = 7
        self.assertEqual(all_told(web), before)

    def test_the_lists_told(self):
        web = web_of(CROSS, [("go", [0]), ("on", [1])])
        before = copy.deepcopy(all_told(web))
        for told in (web.spots(), web.occurrences(), comings(web), causes(web, 1)):
            told.append("x")
            told[0] = "y"
            told.clear()
        self.assertEqual(all_told(web), before)
        self.assertEqual(web.come("meet", [2, 3]), 2)

    def test_lists_told_ahead_stay_as_they_were(self):
        web = Web(net_of(CROSS))
        spots, occurrences = told_by(web)
        web.come("go", [0])
        self.assertEqual((spots, occurrences), ([("a", None), ("b", None)], []))

    def test_two_webs_of_one_net_by_turns(self):
        net = net_of(CROSS)
        one, other = Web(net), Web(net)
        self.assertEqual(one.come("go", [0]), 0)
        self.assertEqual(told_by(other), ([("a", None), ("b", None)], []))
        self.assertEqual(other.come("by", [1]), 0)
        self.assertEqual(one.come("on", [1]), 1)
        self.assertEqual(other.come("go", [0]), 1)
        self.assertEqual(one.come("meet", [2, 3]), 2)
        self.assertEqual(one.occurrences(), [("go", (0,)), ("on", (1,)), ("meet", (2, 3))])
        self.assertEqual(other.occurrences(), [("by", (1,)), ("go", (0,))])
        self.assertEqual(one.spots(), [("a", None), ("b", None), ("c", 0), ("d", 1), ("a", 2), ("b", 2)])
        self.assertEqual(other.spots(), [("a", None), ("b", None), ("e", 0), ("c", 1)])
        self.assertEqual(all_told(web_of(CROSS, [("by", [1]), ("go", [0])])), all_told(other))


class Under(unittest.TestCase):
    def test_a_class_under_web(self):
        class Longer(Web):
            def __init__(self, net):
                Web.__init__(self, net)
                self.first = self.come("go", [0])

            def stops(self):
                return [self.first]

        web = Longer(net_of(CROSS))
        self.assertIsInstance(web, Web)
        self.assertEqual((web.stops(), web.come("on", [1])), ([0], 1))
        self.assertEqual(all_told(web), all_told(web_of(CROSS, [("go", [0]), ("on", [1])])))
        with self.assertRaises(Crowded):
            Longer(net_of("a b; go: a > b"))


class AllComings(unittest.TestCase):
    def holds(self, web, longest):
        """Holds each coming of each move with each list of spots against counting, on a web made anew for it."""
        net, steps, spots = web.net(), web.occurrences(), web.spots()
        numbers = range(-1, len(spots) + 1)
        for move in net.moves() + ["nowhere"]:
            for taken in [list(some) for size in range(longest + 1) for some in product(numbers, repeat=size)]:
                expected = counted_come(web, move, taken)
                if expected:
                    self.assertIn(refusal_of(lambda: web.come(move, taken)), expected, (steps, move, taken))
                    self.assertEqual(told_by(web), (spots, steps))
                else:
                    fresh = web_again(web)
                    self.assertEqual(fresh.come(move, taken), len(steps))
                    given = [(place, len(steps)) for place in net.gives(move)]
                    self.assertEqual(told_by(fresh), (spots + given, steps + [(move, tuple(sorted(taken)))]))

    def test_small_webs(self):
        for web in small_webs("abc", 2, 211, 5):
            self.holds(web, 2)

    def test_rich_webs(self):
        for number, web in enumerate(rich_webs(9)):
            self.holds(web, 3 if number % 8 == 1 else 2)

    def test_no_two_spots_of_one_place_are_side_by_side(self):
        for web in list(rich_webs(12)) + list(small_webs("abc", 3, 997, 8)):
            spots = web.spots()
            for one in range(len(spots)):
                for other in range(one):
                    if spots[one][0] == spots[other][0]:
                        self.assertFalse(counted_beside(web, one, other))
                        self.assertFalse(spots_beside(web, one, other))

    def test_the_rich_nets_do_not_crowd(self):
        self.assertEqual([refusal_of(lambda: Web(net_of(text))) for text in RICH_NETS], [None] * len(RICH_NETS))


if __name__ == "__main__":
    unittest.main()
