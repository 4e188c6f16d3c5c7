"""Points 7 and 8: levels, their turnings, their symbols, a turning of each symbol; point 2 of what they tell."""

import math
import unittest
from fractions import Fraction

from common import LEVELS, LONGEST, OTHER_PRIME, OTHER_THINGS, PRIME, long_turnings, refusal, small_turnings
from fractionroads.errors import NoLevel, NoSymbol
from fractionroads.levels import Level, symbols_counted
from fractionroads.turnings import back, is_turning, multiplied

NO_LEVELS = (0, -1, 49, 50, -48, LONGEST, -LONGEST, 10 ** 60 - 1, [1], (1,), [12], (48,), *OTHER_THINGS)
SOME_LEVELS = (1, 2, 3, 4, 6, 7, 12, 25, 30, 36, 48)


def units(n):
    return [k for k in range(1, n + 1) if math.gcd(k, n) == 1]


def least_pair(n, u, v):
    """The symbol by its meaning: the least of all pairs that tell it."""
    return min(((k * u) % n, (k * v) % n) for k in units(n))


class TestNoLevel(unittest.TestCase):
    def test_levels(self):
        for thing in NO_LEVELS:
            with self.subTest(repr(thing)[:60]):
                self.assertIs(refusal(Level, thing), NoLevel)
                self.assertIs(refusal(symbols_counted, thing), NoLevel)

    def test_each_level_is_let_by(self):
        for n in LEVELS:
            self.assertEqual(Level(n).number(), n)
            self.assertIs(type(Level(n).number()), int)

    def test_what_is_handed_in_stays(self):
        thing = [1, [2]]
        refusal(Level, thing)
        refusal(symbols_counted, thing)
        self.assertEqual(thing, [1, [2]])


class TestSymbolsCounted(unittest.TestCase):
    def test_examples(self):
        for n, many in ((1, 1), (2, 3), (3, 4), (4, 6), (6, 12), (12, 24), (30, 72), (36, 72), (47, 48), (48, 96)):
            self.assertEqual(symbols_counted(n), many)

    def test_every_level(self):
        for n in LEVELS:
            many = Fraction(n)
            for p in range(2, n + 1):
                if n % p == 0 and all(p % q != 0 for q in range(2, p)):
                    many *= 1 + Fraction(1, p)
            self.assertEqual(symbols_counted(n), many)
            self.assertIs(type(symbols_counted(n)), int)
            self.assertEqual(len(Level(n).symbols()), many)


class TestHas(unittest.TestCase):
    def test_small_ones(self):
        turnings = small_turnings(6)
        for n in (1, 2, 3, 4, 5, 6, 48):
            level = Level(n)
            for turning in turnings:
                self.assertIs(level.has(turning), turning[1][0] % n == 0)

    def test_long_numbers(self):
        for n in LEVELS:
            level = Level(n)
            c = n * PRIME * OTHER_PRIME
            self.assertIs(level.has(((1, 0), (c, 1))), True)
            self.assertIs(level.has(((1, 0), (-c, 1))), True)
            self.assertIs(level.has(((-1, 0), (c, -1))), True)
            self.assertIs(level.has(((1, LONGEST), (0, 1))), True)
            self.assertIs(level.has(((1, 0), (c + 1, 1))), n == 1)
            self.assertIs(level.has(((1, 0), (-c - 1, 1))), n == 1)
            for turning in long_turnings():
                self.assertIs(level.has(turning), turning[1][0] % n == 0)


class TestSymbols(unittest.TestCase):
    def test_examples(self):
        self.assertEqual(Level(1).symbols(), [(0, 0)])
        self.assertEqual(Level(2).symbols(), [(0, 1), (1, 0), (1, 1)])
        self.assertEqual(Level(3).symbols(), [(0, 1), (1, 0), (1, 1), (1, 2)])
        self.assertEqual(Level(4).symbols(), [(0, 1), (1, 0), (1, 1), (1, 2), (1, 3), (2, 1)])
        self.assertEqual(Level(6).symbols(), [(0, 1), (1, 0), (1, 1), (1, 2), (1, 3), (1, 4), (1, 5), (2, 1), (2, 3),
                                              (2, 5), (3, 1), (3, 2)])

    def test_each_pair_of_every_level(self):
        for n in LEVELS:
            level = Level(n)
            symbols = level.symbols()
            self.assertIs(type(symbols), list)
            found = set()
            for u in range(n):
                for v in range(n):
                    if math.gcd(u, v, n) == 1:
                        least = least_pair(n, u, v)
                        found.add(least)
                        self.assertEqual(level.symbol(u, v), least)
                        self.assertEqual(symbols[level.number_of(u, v)], least)
                    else:
                        self.assertIs(refusal(level.symbol, u, v), NoSymbol)
                        self.assertIs(refusal(level.number_of, u, v), NoSymbol)
            self.assertEqual(symbols, sorted(found))

    def test_symbols_are_tuples_and_numbers_are_ints(self):
        for n in SOME_LEVELS:
            level = Level(n)
            for at, told in enumerate(level.symbols()):
                self.assertIs(type(told), tuple)
                self.assertEqual([type(number) for number in told], [int, int])
                self.assertEqual(level.symbol(*told), told)
                self.assertIs(type(level.symbol(*told)), tuple)
                self.assertEqual(level.number_of(*told), at)
                self.assertIs(type(level.number_of(*told)), int)

    def test_examples_of_pairs(self):
        level = Level(6)
        self.assertEqual(level.symbol(5, 4), (1, 2))
        self.assertEqual(level.symbol(-1, -2), (1, 2))
        self.assertEqual(level.symbol(0, 5), (0, 1))
        self.assertEqual(level.symbol(4, 3), (2, 3))
        self.assertEqual(level.symbol(8, -3), (2, 3))
        self.assertEqual(level.number_of(0, 1), 0)
        self.assertEqual(level.number_of(-3, 4), 11)
        self.assertEqual(Level(1).symbol(0, 0), (0, 0))
        self.assertEqual(Level(1).symbol(LONGEST, -7), (0, 0))
        self.assertEqual(Level(1).number_of(6, 6), 0)

    def test_long_pairs_of_either_sign(self):
        for n in LEVELS:
            level = Level(n)
            high = (10 ** 28 // n) * n
            for u, v in level.symbols():
                k = units(n)[-1] + high // 10 ** 13
                k -= (k - units(n)[-1]) % n
                for pair in ((u + high, v - high), (u - high, v + high), (k * u, k * v), (-k * u, -k * v + n)):
                    self.assertEqual(level.symbol(*pair), (u, v))

    def test_long_pairs_that_are_refused(self):
        for n in LEVELS[1:]:
            level = Level(n)
            prime = min(p for p in range(2, n + 1) if n % p == 0)
            for pair in ((prime * PRIME, prime * OTHER_PRIME), (-prime * PRIME, prime), (0, prime), (prime, 0), (0, 0),
                         (n * PRIME, -n), (-prime * PRIME, -prime * OTHER_PRIME)):
                self.assertIs(refusal(level.symbol, *pair), NoSymbol)
                self.assertIs(refusal(level.number_of, *pair), NoSymbol)

    def test_a_common_divisor_that_the_level_does_not_share(self):
        self.assertEqual(Level(5).symbol(2, 4), (1, 2))
        self.assertEqual(Level(7).symbol(PRIME * 3, PRIME * 3), (1, 1))


class TestTurningOf(unittest.TestCase):
    def test_every_symbol_of_every_level(self):
        for n in LEVELS:
            level = Level(n)
            for k, told in enumerate(level.symbols()):
                turning = level.turning_of(k)
                self.assertTrue(is_turning(turning))
                self.assertEqual(level.symbol(*turning[1]), told)
                self.assertEqual(level.number_of(*turning[1]), k)

    def test_the_same_symbol_just_by_the_levels_turnings(self):
        turnings = small_turnings(2) + long_turnings()
        for n in SOME_LEVELS:
            level = Level(n)
            for one in turnings[::3]:
                for other in turnings[::2]:
                    same = level.symbol(*one[1]) == level.symbol(*other[1])
                    self.assertEqual(same, level.has(multiplied(one, back(other))))

    def test_the_symbols_turnings_are_apart(self):
        for n in SOME_LEVELS:
            level = Level(n)
            turnings = [level.turning_of(k) for k in range(len(level.symbols()))]
            for at, one in enumerate(turnings):
                for other in turnings[:at]:
                    self.assertFalse(level.has(multiplied(one, back(other))))


class TestToldLists(unittest.TestCase):
    def test_symbols(self):
        for n in SOME_LEVELS:
            level = Level(n)
            earlier = level.symbols()
            kept = list(earlier)
            told = level.symbols()
            told.reverse()
            told[0] = "other"
            told.append("more")
            self.assertEqual(level.symbols(), kept)
            self.assertEqual(earlier, kept)
            self.assertEqual(Level(n).symbols(), kept)
            told.clear()
            self.assertEqual([level.symbol(*pair) for pair in kept], kept)
            self.assertEqual([level.number_of(*pair) for pair in kept], list(range(len(kept))))
            for k, pair in enumerate(kept):
                self.assertEqual(level.symbol(*level.turning_of(k)[1]), pair)

    def test_levels_do_not_meddle_with_one_another(self):
        one, other = Level(6), Level(4)
        self.assertEqual(len(one.symbols()), 12)
        refusal(one.symbol, 2, 4)
        self.assertEqual(other.symbol(3, 3), (1, 1))
        self.assertEqual(len(one.symbols()), 12)
        self.assertEqual((one.number(), other.number()), (6, 4))


if __name__ == "__main__":
    unittest.main()
