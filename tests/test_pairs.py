import unittest
from itertools import combinations, permutations, product

from helper import (BARE_NETS, FORK, MIDDLE, RICH_NETS, ROUND, TWO_WAYS_NETS, GrownAskedAgain, counted_reach,
                    counted_steps, counted_words, last_state, net_of, nets_of_many_sorts, parts_of, refusal_of,
                    ring_nets)

from unfoldnet.grown import Grown
from unfoldnet.nets import Net
from unfoldnet.pairs import beside, rivals

# Nets with two of their moves, and how many moves the shortest rows have to where these are side by side, and to where
# they are rivals; None where there is no such state.
TOLD = [
    ("a b; go: a > c; on: b > d", "go", "on", 0, None),
    ("a; go: a > c; on: a > d", "go", "on", None, 0),
    # One place of several is taken by both.
    ("a b c; go: a b > d; on: b c > e", "go", "on", None, 0),
    ("a b c d; go: a b > e; on: c d > f", "go", "on", 0, None),
    # One behind the other: never both at once.
    ("a; go: a > b; on: b > c", "go", "on", None, None),
    # A place that is given back is taken, too.
    ("a b; go: a > a; on: b > b", "go", "on", 0, None),
    ("a; stay: a > a; go: a > b", "go", "stay", None, 0),
    ("a; stay: a > a; rest: a > a", "rest", "stay", None, 0),
    # They meet behind some moves.
    ("a; fork: a > b c; left: b > d; right: c > e", "left", "right", 1, None),
    ("a b; x: a > c; y: b > d; one: c d > e; two: d > f", "one", "two", None, 2),
    ("a b; x: a > c; y: b > d; one: c > e; two: d > f", "one", "two", 2, None),
    # There is a place of both, but no state in which both may be done; or no place of both, and no such state.
    ("a; go: a > b; back: b > a; one: a c > d; two: a > b", "one", "two", None, None),
    ("a; go: a > b; back: b > a; one: a > c; two: b > d", "one", "two", None, None),
    # The nearest of several states: by the later name; and a second way that is longer.
    ("a b; go: a > c; on: c > d; zip: a > d; out: d > e; end: b > f", "end", "out", 1, None),
    ("a; go: a > b; on: b > c; zip: a > c; one: c > d; two: c > e", "one", "two", None, 1),
    # Only behind the lesser one of two troops with a state.
    (TWO_WAYS_NETS[2], "over", "under", 3, None),
]


def fewest_to(net, steps, one, other):
    """How many moves the shortest row has to a state in which both moves may be done; or None."""
    reach = counted_reach(steps, net.start())
    return min((reach[state] for state in steps if one in steps[state] and other in steps[state]), default=None)


class Meeting(unittest.TestCase):
    def meets(self, net, steps, row, pair, fewest):
        """Holds a row that is told against play."""
        state = last_state(self, net, row, fewest)
        if state is not None:
            self.assertLessEqual(set(pair), set(steps[state]), (parts_of(net), pair, row))

    def test_by_hand(self):
        for text, one, other, apart, against in TOLD:
            with self.subTest(text):
                net = net_of(text)
                grown, steps = Grown(net), counted_steps(net)
                for pair in ((one, other), (other, one)):
                    self.meets(net, steps, beside(grown, *pair), pair, apart)
                    self.meets(net, steps, rivals(grown, *pair), pair, against)

    def test_each_two_moves_as_searched(self):
        lengths = {"beside": [], "rivals": []}
        for net in nets_of_many_sorts() + ring_nets(150)[70:]:
            grown, steps = Grown(net), counted_steps(net)
            for pair in permutations(net.moves(), 2):
                common = set(net.takes(pair[0])) & set(net.takes(pair[1]))
                fewest = fewest_to(net, steps, *pair)
                self.meets(net, steps, beside(grown, *pair), pair, None if common else fewest)
                self.meets(net, steps, rivals(grown, *pair), pair, fewest if common else None)
                lengths["rivals" if common else "beside"].append(fewest)
        for name, length in product(lengths, (None, 0, 1, 2, 3)):
            self.assertGreater(lengths[name].count(length), 20, (name, length))

    def test_side_by_side_just_where_two_occurrences_are(self):
        found = {True: 0, False: 0}
        texts = BARE_NETS + RICH_NETS + TWO_WAYS_NETS + (FORK, MIDDLE, ROUND)
        for net in [net_of(text) for text in texts] + ring_nets(30):
            grown = Grown(net)
            occurrences = grown.occurrences()
            if len(occurrences) > 40:
                continue
            shown = {frozenset((occurrences[one][0], occurrences[other][0]))
                     for one, other in combinations(range(len(occurrences)), 2)
                     if counted_words(grown, one, other) == ["beside"]}
            for pair in combinations(net.moves(), 2):
                told = beside(grown, *pair) is not None
                self.assertIs(told, frozenset(pair) in shown, (parts_of(net), pair))
                found[told] += 1
        self.assertGreater(min(found.values()), 100)

    def test_moves_that_stand_as_stops_alone(self):
        grown = Grown(net_of("a b; one: a > a; two: b > b; three: a > a"))
        self.assertEqual(len(grown.stops()), 3)
        self.assertEqual((beside(grown, "one", "two"), rivals(grown, "one", "three")), ([], []))
        self.assertEqual((rivals(grown, "one", "two"), beside(grown, "one", "three")), (None, None))

    def test_many_beads(self):
        moves = [("m" + place, [place], []) for place in "abcdefghij"]
        grown = Grown(Net(moves + [("vain", ["a", "l"], [])], list("abcdefghij")))
        self.assertEqual((beside(grown, "ma", "mj"), rivals(grown, "ma", "mj")), ([], None))
        self.assertEqual((beside(grown, "vain", "mj"), rivals(grown, "ma", "vain")), (None, None))

    def test_four_places_each(self):
        text = "a b c d e f g h; one: a b c d >; two: e f g h >; three: d e f g >; four: e f g h > e f g h"
        grown = Grown(net_of(text))
        self.assertEqual([beside(grown, "one", other) for other in ("two", "three", "four")], [[], None, []])
        self.assertEqual([rivals(grown, "three", other) for other in ("one", "two", "four")], [[], [], []])


class Refused(unittest.TestCase):
    def test_what_is_no_move(self):
        for text in BARE_NETS + (FORK, ROUND):
            grown = Grown(net_of(text))
            for word in ("nowhere", "a", "b", "", "GO", "go on", "muchtoolong", "f1"):
                for ask in (beside, rivals):
                    for pair in [(word, "no")] + [(word, move) for move in grown.net().moves()]:
                        self.assertEqual(refusal_of(lambda: ask(grown, *pair)), ("NoMove", {"at": 0}), pair)
                        self.assertEqual(refusal_of(lambda: ask(grown, *pair[::-1])), ("NoMove", {"at": 0}), pair)

    def test_a_move_of_another_net(self):
        one = Grown(net_of("a b; stay: a > a; go: b > c"))
        other = Grown(net_of("a b; rest: a > a; go: b > c"))
        for ask in (beside, rivals):
            self.assertEqual(refusal_of(lambda: ask(one, "rest", "go")), ("NoMove", {"at": 0}))
            self.assertEqual(refusal_of(lambda: ask(other, "go", "stay")), ("NoMove", {"at": 0}))
        self.assertEqual((beside(one, "stay", "go"), beside(other, "rest", "go")), ([], []))

    def test_a_move_that_no_row_has_is_a_move(self):
        grown = Grown(net_of("a; stay: a > a; never: a b > a; nor: b > b"))
        for pair in permutations(grown.net().moves(), 2):
            self.assertEqual((beside(grown, *pair), rivals(grown, *pair)), (None, None))


class KeptApart(GrownAskedAgain, unittest.TestCase):
    texts = [told[0] for told in TOLD]

    def answers(self, grown):
        pairs = list(permutations(grown.net().moves(), 2))
        return [beside(grown, *pair) for pair in pairs], [rivals(grown, *pair) for pair in pairs]


if __name__ == "__main__":
    unittest.main()
