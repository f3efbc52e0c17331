import unittest
from itertools import combinations

from helper import (counted_causes, counted_clashes, fork, grown_and_woven_webs, is_troop, net_of, refusal_of,
                    rich_webs, small_webs, told_by, web_by_hand)

from unfoldnet.errors import Clash
from unfoldnet.troops import flaw, own, together
from unfoldnet.webs import Web


def many_webs():
    return (list(rich_webs(7)) + list(small_webs("ab", 2, 3, 5)) + list(small_webs("abc", 3, 1993, 6))
            + grown_and_woven_webs(8))


def some_of_all(web):
    """All rising lists of occurrences of a web."""
    numbers = range(len(web.occurrences()))
    return [list(some) for size in range(len(numbers) + 1) for some in combinations(numbers, size)]


class Own(unittest.TestCase):
    def test_of_each(self):
        web = fork()
        troops = [own(web, one) for one in range(6)]
        self.assertEqual(troops, [[0], [1], [2], [0, 2, 3], [1, 2, 4], [0, 2, 3, 5]])
        self.assertEqual([type(troop) for troop in troops], [list] * 6)

    def test_no_occurrence(self):
        web = fork()
        for wrong in (-1, -6, -7, 6, 7, 1000):
            self.assertEqual(refusal_of(lambda: own(web, wrong)), ("NoOccurrence", {}))
        self.assertEqual(refusal_of(lambda: own(Web(net_of("a")), 0)), ("NoOccurrence", {}))

    def test_a_list_told_and_changed(self):
        web = fork()
        own(web, 5).clear()
        own(web, 0).append(7)
        self.assertEqual([own(web, 5), own(web, 0)], [[0, 2, 3, 5], [0]])

    def test_as_counted(self):
        for web in many_webs():
            for one in range(len(web.occurrences())):
                self.assertEqual(own(web, one), sorted(counted_causes(web, one) | {one}))
                self.assertIsNone(flaw(web, own(web, one)))


class Flaw(unittest.TestCase):
    def test_troops(self):
        web = fork()
        for troop in ([], [0], [1], [2], [0, 2], [1, 2], [0, 2, 3], [1, 2, 4], [0, 2, 3, 5]):
            self.assertIsNone(flaw(web, troop), troop)
        self.assertIsNone(flaw(Web(net_of("")), []))

    def test_a_cause_is_missing(self):
        web = fork()
        self.assertEqual(flaw(web, [0, 3]), ("cause", 3, 2))
        self.assertEqual(flaw(web, [0, 2, 5]), ("cause", 5, 3))
        self.assertIn(flaw(web, [4]), [("cause", 4, 1), ("cause", 4, 2)])
        self.assertIs(type(flaw(web, [4])), tuple)

    def test_two_clash(self):
        web = fork()
        self.assertEqual(flaw(web, [0, 1]), ("clash", 0, 1))
        self.assertEqual(flaw(web, [0, 1, 2]), ("clash", 0, 1))
        self.assertIn(flaw(web, [0, 1, 2, 3]), [("clash", 0, 1), ("clash", 1, 3)])
        self.assertIs(type(flaw(web, [0, 1])), tuple)

    def test_either_would_do(self):
        web = fork()
        self.assertIn(flaw(web, [0, 1, 5]), [("clash", 0, 1), ("clash", 1, 5), ("cause", 5, 2), ("cause", 5, 3)])
        self.assertIn(flaw(web, [1, 5]), [("clash", 1, 5), ("cause", 5, 0), ("cause", 5, 2), ("cause", 5, 3)])

    def test_the_list_handed_in_stays(self):
        web = fork()
        for some in ([], [0, 3], [0, 1], [0, 2, 3]):
            kept = list(some)
            first = flaw(web, some)
            self.assertEqual((some, flaw(web, some)), (kept, first))
        self.assertEqual(told_by(web), told_by(fork()))

    def test_all_lists_as_counted(self):
        words = set()
        for web in many_webs():
            for some in some_of_all(web):
                found = flaw(web, some)
                place = (web.occurrences(), some, found)
                if is_troop(web, some):
                    self.assertIsNone(found, place)
                    continue
                word, one, other = found
                words.add(word)
                self.assertIn(one, some, place)
                if word == "cause":
                    self.assertIn(other, counted_causes(web, one), place)
                    self.assertNotIn(other, some, place)
                else:
                    self.assertEqual(word, "clash")
                    self.assertIn(other, some, place)
                    self.assertLess(one, other, place)
                    self.assertTrue(counted_clashes(web, one, other), place)
        self.assertEqual(words, {"cause", "clash"})


class Together(unittest.TestCase):
    def test_troops_that_go_together(self):
        web = fork()
        self.assertEqual(together(web, [0], [2]), [0, 2])
        self.assertEqual(together(web, [2], [0]), [0, 2])
        self.assertEqual(together(web, [2], [0, 2, 3]), [0, 2, 3])
        self.assertEqual(together(web, [0, 2, 3, 5], [0, 2]), [0, 2, 3, 5])
        self.assertIs(type(together(web, [0], [2])), list)

    def test_one_within_the_other_and_none(self):
        web = fork()
        self.assertEqual(together(web, [], []), [])
        self.assertEqual(together(web, [], [0, 2, 3]), [0, 2, 3])
        self.assertEqual(together(web, [0, 2, 3], []), [0, 2, 3])
        self.assertEqual(together(web, [0, 2, 3], [0, 2, 3]), [0, 2, 3])
        self.assertEqual(together(Web(net_of("a")), [], []), [])

    def test_troops_that_clash(self):
        web = fork()
        self.assertEqual(refusal_of(lambda: together(web, [0], [1])), ("Clash", {"one": 0, "other": 1}))
        self.assertEqual(refusal_of(lambda: together(web, [1], [0])), ("Clash", {"one": 1, "other": 0}))
        self.assertEqual(refusal_of(lambda: together(web, [1, 2], [0, 2])), ("Clash", {"one": 1, "other": 0}))
        with self.assertRaises(Clash) as caught:
            together(web, [0, 2, 3, 5], [1, 2, 4])
        self.assertIn(caught.exception.one, [0, 3, 5])
        self.assertIn(caught.exception.other, [1, 4])

    def test_lists_stay_the_asker_s_own(self):
        web = fork()
        one, other = [0], [0, 2]
        for first, second in ((one, other), (other, one), (other, other), ([], other), (other, [])):
            troop = together(web, first, second)
            troop.append(7)
            troop[0] = 9
            self.assertEqual((one, other), ([0], [0, 2]))
        self.assertEqual(together(web, one, other), [0, 2])
        refusal_of(lambda: together(web, other, [1]))
        self.assertEqual(other, [0, 2])
        self.assertEqual(told_by(web), told_by(fork()))

    def test_all_troops_as_counted(self):
        came = set()
        for web in many_webs():
            troops = [some for some in some_of_all(web) if is_troop(web, some)]
            for one in troops:
                for other in troops:
                    whole = sorted(set(one) | set(other))
                    place = (web.occurrences(), one, other)
                    if is_troop(web, whole):
                        self.assertEqual(together(web, one, other), whole, place)
                        came.add(True)
                        continue
                    name, values = refusal_of(lambda: together(web, one, other))
                    self.assertEqual((name, sorted(values)), ("Clash", ["one", "other"]), place)
                    self.assertIn(values["one"], one, place)
                    self.assertIn(values["other"], other, place)
                    self.assertTrue(counted_clashes(web, values["one"], values["other"]), place)
                    came.add(False)
        self.assertEqual(came, {True, False})

    def test_many_occurrences(self):
        web = web_by_hand(net_of("a b; stay: a > a; turn: b > b"), 100, 1)
        stays = [number for number, (move, spots) in enumerate(web.occurrences()) if move == "stay"]
        turns = [number for number, (move, spots) in enumerate(web.occurrences()) if move == "turn"]
        self.assertEqual(together(web, turns, stays), list(range(100)))
        self.assertIsNone(flaw(web, list(range(100))))


if __name__ == "__main__":
    unittest.main()
