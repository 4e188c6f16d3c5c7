"""What the other modules need of whole numbers (point 2)."""

import math
import unittest
from fractions import Fraction

from fractionroads.numbers import common_divisor, division, divisors, is_whole, primes_in, shares

LONG = 10 ** 29 + 7


class TestWhole(unittest.TestCase):
    def test_whole_numbers(self):
        for number in (0, 1, -1, 7, LONG, -LONG, 10 ** 59):
            self.assertIs(is_whole(number), True)

    def test_other_things(self):
        for thing in (True, False, None, "", "1", [], [1], (), (1,), (1, 0)):
            with self.subTest(repr(thing)):
                self.assertIs(is_whole(thing), False)


class TestCommonDivisor(unittest.TestCase):
    def test_small_numbers_of_either_sign(self):
        for one in range(-30, 31):
            for other in range(-30, 31):
                self.assertEqual(common_divisor(one, other), math.gcd(one, other))

    def test_long_numbers(self):
        for one, other in ((LONG, 10 ** 29), (6 * 10 ** 28, -9 * 10 ** 28), (-LONG, 0), (0, -LONG)):
            self.assertEqual(common_divisor(one, other), math.gcd(one, other))


class TestDivision(unittest.TestCase):
    def test_it_comes_to_the_fraction(self):
        for top in range(-40, 41):
            for bottom in range(1, 25):
                numbers = division(top, bottom)
                told = Fraction(numbers[-1])
                for number in numbers[-2::-1]:
                    told = number + 1 / told
                self.assertEqual(told, Fraction(top, bottom))
                self.assertTrue(all(number >= 1 for number in numbers[1:]))
                self.assertTrue(len(numbers) == 1 or numbers[-1] >= 2)

    def test_nothing_is_divided_by_nought(self):
        self.assertEqual(division(1, 0), [])


class TestShares(unittest.TestCase):
    def test_small_numbers_of_either_sign(self):
        for one in range(-20, 21):
            for other in range(-20, 21):
                s, t = shares(one, other)
                self.assertEqual(s * one + t * other, math.gcd(one, other))

    def test_long_numbers(self):
        for one, other in ((LONG, 10 ** 29), (-LONG, 10 ** 29), (LONG, -10 ** 29), (-LONG, -10 ** 29), (0, -LONG)):
            s, t = shares(one, other)
            self.assertEqual(s * one + t * other, math.gcd(one, other))


class TestDivisors(unittest.TestCase):
    def test_examples(self):
        self.assertEqual(divisors(1), [1])
        self.assertEqual(divisors(12), [1, 2, 3, 4, 6, 12])
        self.assertEqual(divisors(47), [1, 47])

    def test_primes(self):
        self.assertEqual(primes_in(1), [])
        self.assertEqual(primes_in(48), [2, 3])
        self.assertEqual(primes_in(30), [2, 3, 5])
        self.assertEqual(primes_in(49), [7])


if __name__ == "__main__":
    unittest.main()
