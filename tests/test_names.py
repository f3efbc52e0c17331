import unittest

from unfoldnet.names import is_name

LETTERS = "abcdefghijklmnopqrstuvwxyz"


class Names(unittest.TestCase):
    def holds(self, things):
        for thing in things:
            with self.subTest(thing):
                self.assertIs(is_name(thing), True)

    def fails(self, things):
        for thing in things:
            with self.subTest(repr(thing)):
                self.assertIs(is_name(thing), False)

    def test_each_letter(self):
        self.holds(LETTERS)

    def test_one_to_eight_letters(self):
        self.holds(["z", "ab", "abc", "zyxw", "aaaaa", "sixsix", "seventh", "eightful"])

    def test_no_letter_and_more_than_eight(self):
        self.fails(["", "ninefolds", LETTERS, "a" * 4000])

    def test_great_letters(self):
        self.fails(["A", "Z", "Go", "gO", "GO"])

    def test_blanks_and_row_ends(self):
        self.fails([" ", "a b", " a", "a ", "a\n", "\n", "a\tb"])

    def test_figures_and_other_signs(self):
        self.fails(["1", "a1", "1a", "a_b", "_", "a-b", "a.", ">", ";", ":", "`", "{", "@", "[", "/"])

    def test_letters_of_other_alphabets(self):
        self.fails(["\u00e4", "stra\u00dfe", "\u03b1", "\u00aa", "a\u0301", "\uff41", "\u0131"])

    def test_every_other_single_sign(self):
        others = [chr(code) for code in range(0x250) if chr(code) not in LETTERS]
        self.assertEqual([sign for sign in others if is_name(sign) is not False], [])

    def test_things_that_are_no_text(self):
        self.fails([None, True, False, 0, 1, 3.5, [], ["a"], ("a",), {"a": 1}, {"a"}, b"a", object(), str])

    def test_asked_again(self):
        self.assertEqual([is_name("go") for again in range(3)], [True] * 3)
        self.assertEqual([is_name("Go") for again in range(3)], [False] * 3)

    def test_a_list_handed_in_stays(self):
        thing = ["a", "b"]
        is_name(thing)
        self.assertEqual(thing, ["a", "b"])


if __name__ == "__main__":
    unittest.main()
