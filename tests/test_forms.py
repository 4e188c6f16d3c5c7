"""Points 26 and 27: small forms, their weights and stays, what they tell of deeds; point 2 of what they tell."""

import math
import unittest
from fractions import Fraction

from common import LEVELS, LONG, LONGEST, OTHER_THINGS, refusal, spoil
from fractionroads.errors import NoDeed, NoForm, NoPart
from fractionroads.forms import small_forms, stays, told_by_forms, weight
from fractionroads.levels import Level
from fractionroads.rooms import Room
from fractionroads.splits import closed_table, trace
from fractionroads.surface import genus

OF_LEVEL = {n: Level(n) for n in LEVELS}
DEEDS = range(1, 21)
SIZES = [size for size in range(-400, 0) if size % 4 in (0, 1)]
NO_DEEDS = (0, -1, 21, LONGEST, -LONG, [1], (1,), *OTHER_THINGS)


def forms_by_search(size):
    """All small forms of a size, by the words of point 26."""
    told = []
    for a in range(1, 21):
        for b in range(-a, a + 1):
            for c in range(a, 101 + a):
                if b * b - 4 * a * c == size and not (b < 0 and (b == -a or a == c)):
                    told.append((a, b, c))
    return sorted(told)


def stays_by_search(n, form, t):
    """How many symbols stay, by all pairs that tell them."""
    a, b, c = form
    units = [k for k in range(1, n + 1) if math.gcd(k, n) == 1]
    told = 0
    for u in range(n):
        for v in range(n):
            if math.gcd(u, v, n) == 1:
                x, y = u * (t - b) // 2 + v * a, v * (t + b) // 2 - u * c
                told += any((k * u - x) % n == 0 and (k * v - y) % n == 0 for k in units)
    # Each symbol is told by as many pairs of rests as there are units.
    return Fraction(told, len(units))


def forms_tell(n, m):
    """Point 27, word by word, by fractions."""
    told = Fraction(0)
    if math.isqrt(m) ** 2 == m:
        told += Fraction(len(OF_LEVEL[n].symbols()), 12)
    for t in range(-9, 10):
        if t * t < 4 * m:
            for form in forms_by_search(t * t - 4 * m):
                a, b, c = form
                part = Fraction(1, 2) if b == 0 and a == c else Fraction(1, 3) if a == b == c else Fraction(1)
                told -= part * stays_by_search(n, form, t) / 2
    for d in range(1, m + 1):
        for c in range(1, n + 1):
            if m % d == 0 and n % c == 0:
                g = math.gcd(c, n // c)
                if (m // d - d) % g == 0:
                    told -= Fraction(min(d, m // d), 2) * sum(math.gcd(k, g) == 1 for k in range(1, g + 1))
    return told + sum(d for d in range(1, m + 1) if m % d == 0)


class TestSmallForms(unittest.TestCase):
    def test_examples(self):
        self.assertEqual(small_forms(-3), [(1, 1, 1)])
        self.assertEqual(small_forms(-4), [(1, 0, 1)])
        self.assertEqual(small_forms(-7), [(1, 1, 2)])
        self.assertEqual(small_forms(-12), [(1, 0, 3), (2, 2, 2)])
        self.assertEqual(small_forms(-16), [(1, 0, 4), (2, 0, 2)])
        self.assertEqual(small_forms(-23), [(1, 1, 6), (2, -1, 3), (2, 1, 3)])
        self.assertEqual(small_forms(-27), [(1, 1, 7), (3, 3, 3)])
        self.assertEqual(small_forms(-39), [(1, 1, 10), (2, -1, 5), (2, 1, 5), (3, 3, 4)])
        self.assertEqual(small_forms(-84), [(1, 0, 21), (2, 2, 11), (3, 0, 7), (5, 4, 5)])
        self.assertEqual(small_forms(-163), [(1, 1, 41)])
        self.assertEqual(len(small_forms(-400)), len(forms_by_search(-400)))

    def test_every_size(self):
        for size in SIZES:
            told = small_forms(size)
            self.assertEqual(told, forms_by_search(size))
            self.assertIs(type(told), list)
            self.assertEqual({type(form) for form in told}, {tuple})
            self.assertEqual({type(number) for form in told for number in form}, {int})

    def test_no_form(self):
        wrong = [size for size in range(-450, 450) if size not in SIZES]
        for thing in (*wrong, -LONG, LONG, -LONGEST, -4 * 10 ** 50, [-3], (-4,), "-3", *OTHER_THINGS):
            self.assertIs(refusal(small_forms, thing), NoForm, repr(thing)[:60])


class TestWeight(unittest.TestCase):
    def test_examples(self):
        self.assertEqual(weight((1, 0, 1)), (1, 2))
        self.assertEqual(weight((5, 0, 5)), (1, 2))
        self.assertEqual(weight((1, 1, 1)), (1, 3))
        self.assertEqual(weight((4, 4, 4)), (1, 3))
        for form in ((1, 1, 2), (2, 2, 3), (2, 1, 2), (1, 0, 2), (2, -1, 3), (3, 0, 7)):
            self.assertEqual(weight(form), (1, 1))

    def test_every_small_form(self):
        for size in SIZES:
            for form in small_forms(size):
                a, b, c = form
                told = weight(form)
                self.assertIs(type(told), tuple)
                self.assertEqual(told, (1, 2) if (b, a) == (0, c) else (1, 3) if (a, a) == (b, c) else (1, 1))

    def test_long_ones(self):
        self.assertEqual(weight((LONG, 0, LONG)), (1, 2))
        self.assertEqual(weight((LONG, LONG, LONG)), (1, 3))
        self.assertEqual(weight((LONG - 1, LONG - 1, LONG)), (1, 1))


class TestStays(unittest.TestCase):
    def test_small_forms_of_deeds(self):
        for n in (1, 2, 3, 4, 6, 8, 9, 11, 12, 15, 16, 18, 25, 30):
            for m in [m for m in (1, 2, 3, 5, 7) if math.gcd(m, n) == 1]:
                for t in [t for t in range(-6, 7) if t * t < 4 * m]:
                    for form in small_forms(t * t - 4 * m):
                        told = stays(OF_LEVEL[n], form, t)
                        self.assertIs(type(told), int)
                        self.assertEqual(told, stays_by_search(n, form, t))

    def test_every_level(self):
        for n in LEVELS:
            for form, t in (((1, 0, 1), 0), ((1, 1, 1), 1), ((1, 1, 1), -1), ((2, 1, 3), 3), ((1, 0, 13), 2)):
                a, b, c = form
                if math.gcd((t * t - b * b + 4 * a * c) // 4, n) == 1:
                    self.assertEqual(stays(OF_LEVEL[n], form, t), stays_by_search(n, form, t))

    def test_folded_and_cones(self):
        for n in LEVELS:
            self.assertEqual(stays(OF_LEVEL[n], (1, 0, 1), 0), sum((x * x + 1) % n == 0 for x in range(n)))
            self.assertEqual(stays(OF_LEVEL[n], (1, 1, 1), 1), sum((x * x + x + 1) % n == 0 for x in range(n)))

    def test_forms_that_are_not_small_and_of_long_numbers(self):
        for n in (1, 6, 11, 35, 48):
            for form, t in (((5, 7, 3), 1), ((10 ** 29 + 1, 2 * 10 ** 28, 10 ** 29), 10 ** 28 + 2),
                            ((7, -3, 10 ** 40), -10 ** 59 - 1), ((LONG, LONG, LONG), -LONG)):
                a, b, c = form
                if math.gcd((t * t - b * b + 4 * a * c) // 4, n) == 1:
                    self.assertEqual(stays(OF_LEVEL[n], form, t), stays_by_search(n, form, t))

    def test_multiples_of_the_level_leave_all(self):
        for n in LEVELS:
            self.assertEqual(stays(OF_LEVEL[n], (n, 0, n), 2), len(OF_LEVEL[n].symbols()) if n % 2 else
                             stays_by_search(n, (n, 0, n), 2))


class TestToldByForms(unittest.TestCase):
    def test_twice_it_is_the_trace(self):
        for n in LEVELS:
            room = Room(OF_LEVEL[n])
            for m in [m for m in DEEDS if math.gcd(m, n) == 1]:
                told = told_by_forms(OF_LEVEL[n], m)
                self.assertIs(type(told), int)
                self.assertEqual(2 * told, trace(closed_table(room, m)))

    def test_the_deed_1_tells_the_genus(self):
        for n in LEVELS:
            self.assertEqual(told_by_forms(OF_LEVEL[n], 1), genus(OF_LEVEL[n]))

    def test_by_fractions(self):
        for n in (1, 2, 6, 9, 11, 16, 23, 25):
            for m in [m for m in DEEDS if math.gcd(m, n) == 1]:
                self.assertEqual(told_by_forms(OF_LEVEL[n], m), forms_tell(n, m))

    def test_examples(self):
        for m, many in ((1, 1), (2, -2), (3, -1), (4, 2), (5, 1), (6, 2), (7, -2), (13, 4), (16, -4), (19, 0)):
            self.assertEqual(told_by_forms(OF_LEVEL[11], m), many)
        self.assertEqual([told_by_forms(OF_LEVEL[1], m) for m in DEEDS], [0] * 20)

    def test_no_deed(self):
        for n in (1, 6, 11, 48):
            for thing in NO_DEEDS:
                self.assertIs(refusal(told_by_forms, OF_LEVEL[n], thing), NoDeed, repr(thing)[:60])

    def test_no_part(self):
        for n in LEVELS:
            for m in DEEDS:
                told = refusal(told_by_forms, OF_LEVEL[n], m)
                self.assertIs(told, NoPart if math.gcd(m, n) != 1 else None)

    def test_no_deed_ahead_of_no_part(self):
        for n in (2, 12, 30):
            for m in (0, -n, 22, 24, 30, 60):
                self.assertIs(refusal(told_by_forms, OF_LEVEL[n], m), NoDeed)


class TestPointTwo(unittest.TestCase):
    def test_told_lists(self):
        for size in (-3, -23, -400):
            earlier, before = small_forms(size), small_forms(size)
            told = small_forms(size)
            spoil(told)
            self.assertEqual(small_forms(size), before)
            self.assertEqual(earlier, before)

    def test_things_that_were_refused_stay(self):
        thing = [[1], -3]
        refusal(small_forms, thing)
        refusal(told_by_forms, OF_LEVEL[11], thing)
        self.assertEqual(thing, [[1], -3])

    def test_the_level_stays(self):
        level = Level(30)
        before = level.symbols()
        told_by_forms(level, 7)
        stays(level, (1, 0, 1), 0)
        self.assertEqual(level.symbols(), before)


if __name__ == "__main__":
    unittest.main()
