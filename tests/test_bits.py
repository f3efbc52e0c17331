import unittest

from unfoldnet.bits import bit, bits_of, has, members


class Bits(unittest.TestCase):
    def test_there_and_back(self):
        for numbers in ([], [0], [1], [0, 1], [3, 7, 8], [0, 63, 64, 65, 200], list(range(130))):
            self.assertEqual(members(bits_of(numbers)), numbers)

    def test_any_order_and_one_twice(self):
        self.assertEqual(members(bits_of([5, 2, 9, 2])), [2, 5, 9])

    def test_one_alone(self):
        self.assertEqual([bit(number) for number in range(4)], [1, 2, 4, 8])

    def test_has(self):
        numbers = [0, 2, 64]
        found = [has(bits_of(numbers), number) for number in range(70)]
        self.assertEqual(found, [number in numbers for number in range(70)])
        self.assertIs(has(4, 2), True)
        self.assertIs(has(4, 1), False)


if __name__ == "__main__":
    unittest.main()
