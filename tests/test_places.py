"""Points 4 and 5: places, crossings, neighbours, steps and ways; point 2 of what they tell."""

import unittest
from fractions import Fraction

from fractionroads import errors
from fractionroads.places import are_neighbours, crossed, is_place, place, steps_to, way

OTHER_ERRORS = (errors.NoLevel, errors.NoSymbol, errors.NoEnd, errors.Apart, errors.NoRow,
                errors.NotClosed, errors.NoDeed, errors.NoPart, errors.NoForm, errors.NoText,
                errors.NoName)
# Two primes of fifteen figures: their products with small numbers have up to thirty figures.
PRIME = 100000000000031
OTHER_PRIME = 100000000000067
LONGEST = 10 ** 30 - 1
LONG_PLACES = (
    (PRIME * PRIME, OTHER_PRIME * OTHER_PRIME),
    (-PRIME * PRIME, OTHER_PRIME * OTHER_PRIME),
    (LONGEST, LONGEST - 1),
    (-LONGEST, LONGEST - 1),
    (1, LONGEST),
    (-1, LONGEST),
    (LONGEST, 1),
    (-LONGEST, 1),
)


def fibonacci_place(many):
    """The place whose division has only ones but for the last: no place so small has more steps."""
    one, other = 1, 1
    for number in range(many):
        one, other = one + other, one
    return (one, other)


def fraction_places(most_top, most_bottom):
    return [(top, bottom) for bottom in range(1, most_bottom + 1)
            for top in range(-most_top, most_top + 1)
            if Fraction(top, bottom).denominator == bottom]


def division_of(fraction):
    """k0, k1, .. by their meaning: the whole part, then that of the rest turned over."""
    numbers = []
    while True:
        whole = fraction.numerator // fraction.denominator
        numbers.append(whole)
        if fraction == whole:
            return numbers
        fraction = 1 / (fraction - whole)


def worth(numbers):
    told = Fraction(numbers[-1])
    for number in numbers[-2::-1]:
        told = number + 1 / told
    return told


def steps_by_meaning(told):
    """The steps as point 5 describes them, each one computed from behind and on its own."""
    if told == (1, 0):
        return [(1, 0)]
    numbers = division_of(Fraction(told[0], told[1]))
    worths = [worth(numbers[:many]) for many in range(1, len(numbers) + 1)]
    return [(1, 0)] + [(each.numerator, each.denominator) for each in worths]


class TestPlace(unittest.TestCase):
    def test_small_numbers(self):
        for top in range(-25, 26):
            for bottom in range(-25, 26):
                if bottom != 0:
                    told = Fraction(top, bottom)
                    self.assertEqual(place(top, bottom), (told.numerator, told.denominator))

    def test_examples(self):
        self.assertEqual(place(6, -4), (-3, 2))
        self.assertEqual(place(-6, -4), (3, 2))
        self.assertEqual(place(0, 7), (0, 1))
        self.assertEqual(place(0, -7), (0, 1))
        self.assertEqual(place(8, 4), (2, 1))

    def test_the_bottom_nought_makes_the_place_beyond(self):
        for top in (1, -1, 2, -17, LONGEST, -LONGEST):
            self.assertEqual(place(top, 0), (1, 0))

    def test_long_numbers_of_either_sign_with_common_factors(self):
        for factor in (1, 2, 9999, PRIME):
            for sign in (1, -1):
                for other_sign in (1, -1):
                    told = place(sign * factor * PRIME, other_sign * factor * OTHER_PRIME)
                    self.assertEqual(told, (sign * other_sign * PRIME, OTHER_PRIME))
        self.assertEqual(place(LONGEST, LONGEST), (1, 1))
        self.assertEqual(place(-LONGEST, LONGEST), (-1, 1))
        self.assertEqual(place(LONGEST, -LONGEST + 1), (-LONGEST, LONGEST - 1))

    def test_it_tells_tuples_of_ints(self):
        for told in (place(3, 6), place(-2, 0), place(0, -3)):
            self.assertIs(type(told), tuple)
            self.assertEqual([type(number) for number in told], [int, int])

    def test_two_noughts_are_refused(self):
        with self.assertRaises(errors.NoPlace) as caught:
            place(0, 0)
        self.assertIs(type(caught.exception), errors.NoPlace)
        self.assertIsInstance(caught.exception, errors.RoadError)
        self.assertIsInstance(caught.exception, ValueError)
        self.assertNotIsInstance(caught.exception, OTHER_ERRORS)


class TestIsPlace(unittest.TestCase):
    def assert_no_place(self, things):
        for thing in things:
            with self.subTest(repr(thing)[:60]):
                self.assertIs(is_place(thing), False)

    def test_places(self):
        for told in [(1, 0), (0, 1), (1, 1), (-1, 1), *fraction_places(12, 12), *LONG_PLACES]:
            self.assertIs(is_place(told), True)

    def test_each_small_tuple(self):
        for top in range(-12, 13):
            for bottom in range(-12, 13):
                lowest = bottom > 0 and Fraction(top, bottom).denominator == bottom
                self.assertIs(is_place((top, bottom)), lowest or (top, bottom) == (1, 0))

    def test_a_bottom_that_no_place_has(self):
        self.assert_no_place([(1, -1), (0, -1), (-1, -2), (0, 0), (-1, 0), (2, 0), (LONGEST, 0), (1, -LONGEST)])

    def test_a_common_divisor(self):
        self.assert_no_place([(2, 4), (-2, 4), (0, 2), (3, 3), (0, LONGEST), (LONGEST, LONGEST),
                              (PRIME * PRIME, PRIME * OTHER_PRIME)])

    def test_numbers_that_are_not_whole(self):
        self.assert_no_place([(True, 1), (1, True), (True, False), (1, False), (False, 1), (True, 0),
                              ("1", 2), (1, "2"), ("1", "2"), (None, 1), (1, None), ([1], 2), (1, [2]),
                              ((1,), 2), (1, (2,)), ((1, 2), (3, 4)), ([], [])])

    def test_things_of_other_kinds(self):
        self.assert_no_place([[1, 2], [1, 0], [], (), (1,), (1, 2, 3), (1, 0, 0), "12", "1/2", "", 0, 1, -1,
                              LONGEST, True, False, None, [(1, 2)], ((1, 2),), [[[[[1]]]]], [0] * 2000, (1,) * 2000])

    def test_what_is_asked_of_stays_as_it_was(self):
        thing = [1, [2, 3]]
        is_place(thing)
        is_place((1, thing))
        self.assertEqual(thing, [1, [2, 3]])


class TestCrossed(unittest.TestCase):
    def test_examples(self):
        self.assertEqual(crossed((1, 2), (1, 3)), 1)
        self.assertEqual(crossed((2, 3), (5, 7)), -1)
        self.assertEqual(crossed((3, 1), (-2, 5)), 17)
        self.assertEqual(crossed((1, 0), (4, 9)), 9)
        self.assertEqual(crossed((4, 9), (1, 0)), -9)

    def test_either_way_round(self):
        told = [(1, 0), *fraction_places(6, 6), *LONG_PLACES]
        for a, c in told:
            for b, d in told:
                self.assertEqual(crossed((a, c), (b, d)), a * d - b * c)
                self.assertEqual(crossed((b, d), (a, c)), b * c - a * d)

    def test_a_place_with_itself(self):
        for told in [(1, 0), (0, 1), (-3, 7), *LONG_PLACES]:
            self.assertEqual(crossed(told, told), 0)


class TestAreNeighbours(unittest.TestCase):
    def test_neighbours(self):
        for one, other in (((1, 0), (0, 1)), ((1, 0), (-5, 1)), ((1, 2), (1, 3)), ((2, 3), (5, 7)),
                           ((0, 1), (1, 9)), ((0, 1), (-1, 9)), ((1, LONGEST), (1, LONGEST - 1))):
            self.assertIs(are_neighbours(one, other), True)
            self.assertIs(are_neighbours(other, one), True)

    def test_others(self):
        for one, other in (((1, 0), (1, 2)), ((1, 0), (1, 0)), ((1, 2), (1, 2)), ((0, 1), (2, 3)),
                           ((1, 1), (-1, 1)), ((1, 3), (2, 3)), LONG_PLACES[:2]):
            self.assertIs(are_neighbours(one, other), False)
            self.assertIs(are_neighbours(other, one), False)


class TestStepsTo(unittest.TestCase):
    def assert_steps(self, told):
        steps = steps_to(told)
        self.assertIs(type(steps), list)
        self.assertEqual(steps[0], (1, 0))
        self.assertEqual(steps[-1], told)
        for one, other in zip(steps, steps[1:]):
            self.assertEqual(abs(one[0] * other[1] - other[0] * one[1]), 1)
        for step in steps:
            self.assertTrue(is_place(step))
        numbers = self.numbers_of(steps)
        self.assertTrue(all(number >= 1 for number in numbers[1:]))
        self.assertTrue(len(numbers) < 2 or numbers[-1] >= 2)
        self.assertEqual(steps, steps_by_meaning(told))

    def numbers_of(self, steps):
        """The division's numbers, read off the steps: each step is so many times the last one, and the one before."""
        numbers = []
        trail = [(0, 1), *steps]
        for first, second, third in zip(trail, trail[1:], trail[2:]):
            at = 0 if second[0] != 0 else 1
            numbers.append((third[at] - first[at]) // second[at])
            self.assertEqual(third[0], numbers[-1] * second[0] + first[0])
            self.assertEqual(third[1], numbers[-1] * second[1] + first[1])
        return numbers

    def test_examples(self):
        self.assertEqual(steps_to((7, 5)), [(1, 0), (1, 1), (3, 2), (7, 5)])
        self.assertEqual(steps_to((-7, 5)), [(1, 0), (-2, 1), (-1, 1), (-3, 2), (-7, 5)])
        self.assertEqual(steps_to((1, 3)), [(1, 0), (0, 1), (1, 3)])
        self.assertEqual(steps_to((-1, 3)), [(1, 0), (-1, 1), (0, 1), (-1, 3)])
        self.assertEqual(steps_to((1, 2)), [(1, 0), (0, 1), (1, 2)])

    def test_the_place_beyond_alone(self):
        self.assertEqual(steps_to((1, 0)), [(1, 0)])

    def test_whole_numbers(self):
        for number in (0, 1, -1, 2, -2, 45, -45, LONGEST, -LONGEST):
            self.assertEqual(steps_to((number, 1)), [(1, 0), (number, 1)])

    def test_fractions_below_and_above_nought(self):
        for told in fraction_places(40, 20):
            self.assert_steps(told)

    def test_many_steps(self):
        top, bottom = fibonacci_place(141)
        self.assertLess(top, 10 ** 30)
        for told, many in (((top, bottom), 142), ((bottom, top), 143), ((-top, bottom), 141)):
            self.assert_steps(told)
            self.assertEqual(len(steps_to(told)), many)

    def test_long_numbers(self):
        for told in LONG_PLACES:
            self.assert_steps(told)


class TestWay(unittest.TestCase):
    def test_examples(self):
        self.assertEqual(way((1, 2), (-1, 3)), [(1, 2), (0, 1), (1, 0), (-1, 1), (0, 1), (-1, 3)])
        self.assertEqual(way((5, 1), (5, 2)), [(5, 1), (1, 0), (2, 1), (5, 2)])

    def test_the_place_beyond_at_either_side(self):
        self.assertEqual(way((1, 0), (1, 0)), [(1, 0)])
        self.assertEqual(way((1, 0), (7, 5)), [(1, 0), (1, 1), (3, 2), (7, 5)])
        self.assertEqual(way((7, 5), (1, 0)), [(7, 5), (3, 2), (1, 1), (1, 0)])

    def test_one_place_twice(self):
        self.assertEqual(way((7, 5), (7, 5)), [(7, 5), (3, 2), (1, 1), (1, 0), (1, 1), (3, 2), (7, 5)])
        self.assertEqual(way((4, 1), (4, 1)), [(4, 1), (1, 0), (4, 1)])

    def test_all_of_some(self):
        told = [(1, 0), *fraction_places(9, 6), *LONG_PLACES, fibonacci_place(141)]
        for one in told:
            for other in told:
                there = way(one, other)
                self.assertIs(type(there), list)
                self.assertEqual((there[0], there[-1]), (one, other))
                self.assertEqual(there.count((1, 0)), 1)
                at = there.index((1, 0))
                self.assertEqual(there[at::-1], steps_to(one))
                self.assertEqual(there[at:], steps_to(other))
                self.assertEqual(way(other, one), there[::-1])


class TestToldLists(unittest.TestCase):
    """Point 2: what the asker does to a told list changes nothing that is told later."""

    def test_steps(self):
        for told in ((1, 0), (0, 1), (7, 5), (-7, 5)):
            first = steps_to(told)
            kept = list(first)
            first.reverse()
            first.append("more")
            self.assertEqual(steps_to(told), kept)
            first.clear()
            self.assertEqual(steps_to(told), kept)

    def test_ways(self):
        for one in ((1, 0), (7, 5), (-3, 2)):
            for other in ((1, 0), (7, 5), (0, 1)):
                first = way(one, other)
                kept = list(first)
                first.clear()
                first.append("more")
                self.assertEqual(way(one, other), kept)

    def test_each_list_is_the_askers_own(self):
        self.assertIsNot(steps_to((7, 5)), steps_to((7, 5)))
        earlier = steps_to((1, 0))
        steps_to((1, 0)).append("more")
        way((1, 0), (1, 0)).append("more")
        self.assertEqual(earlier, [(1, 0)])


if __name__ == "__main__":
    unittest.main()
