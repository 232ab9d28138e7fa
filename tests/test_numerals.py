"""Points 2 and 62: numbers of any size in decimal digits."""

import random
import sys
import unittest

from millsluices.numerals import numeral, worth

# Python allows texts of so many digits whatever limit is set.
LEAST_LIMIT = 640


class NumeralsTest(unittest.TestCase):
    def setUp(self):
        self.addCleanup(sys.set_int_max_str_digits, sys.get_int_max_str_digits())

    def both(self, number, digits):
        # The numbers are too long to be shown where they differ.
        self.assertTrue(numeral(number) == digits, len(digits))
        self.assertTrue(worth(digits) == number, len(digits))

    def test_short_numbers(self):
        for number, digits in ((0, "0"), (1, "1"), (9, "9"), (10, "10"), (100, "100"), (1203, "1203")):
            self.both(number, digits)

    def test_ends_of_pieces(self):
        for size in (58, 59, 60, 61, 119, 120, 121, 179, 180, 181, 639, 640, 641, 4299, 4300, 4301, 30000):
            self.both(10 ** size, "1" + "0" * size)
            self.both(10 ** size - 1, "9" * size)
            self.both(10 ** size + 1, "1" + "0" * (size - 1) + "1")
            self.both(7 * 10 ** size + 10 ** (size // 2), "7" + "0" * (size - size // 2 - 1) + "1" + "0" * (size // 2))

    def test_as_python_writes_them(self):
        rng = random.Random(5)
        for _ in range(300):
            number = rng.randrange(10 ** rng.randrange(1, 900))
            self.both(number, str(number))

    def test_random_digits(self):
        rng = random.Random(6)
        for size in (4301, 5000, 9999):
            digits = rng.choice("123456789") + "".join(rng.choices("0123456789", k=size - 1))
            number = 0
            for digit in digits:
                number = number * 10 + int(digit)
            self.both(number, digits)

    def test_under_the_least_limit(self):
        sys.set_int_max_str_digits(LEAST_LIMIT)
        self.both(10 ** 2000 + 34, "1" + "0" * 1998 + "34")
        self.assertEqual(sys.get_int_max_str_digits(), LEAST_LIMIT)

    def test_the_limit_stays(self):
        limit = sys.get_int_max_str_digits()
        self.both(10 ** 5000, "1" + "0" * 5000)
        self.assertEqual(sys.get_int_max_str_digits(), limit)


if __name__ == "__main__":
    unittest.main()
