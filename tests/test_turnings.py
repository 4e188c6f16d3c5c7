"""Point 6: turnings, where they lead, their products, backs and words; point 2 of what they tell."""

import itertools
import unittest

from common import LONGEST, OTHER_THINGS, long_places, long_turnings, product, small_turnings
from fractionroads.places import are_neighbours, is_place, place
from fractionroads.turnings import back, by_word, is_turning, led, multiplied, word_of

PLAIN = ((1, 0), (0, 1))
CONTRARY = ((-1, 0), (0, -1))
H = ((0, -1), (1, 0))


def fibonacci_turning(many):
    """A turning of numbers that divide by one another in ones: no numbers so small need more steps."""
    turning = PLAIN
    for step in range(many):
        turning = product(turning, ((2, 1), (1, 1)))
    return turning


class TestIsTurning(unittest.TestCase):
    def assert_none(self, things):
        for thing in things:
            with self.subTest(repr(thing)[:60]):
                self.assertIs(is_turning(thing), False)

    def test_each_small_table(self):
        for a, b, c, d in itertools.product(range(-4, 5), repeat=4):
            self.assertIs(is_turning(((a, b), (c, d))), a * d - b * c == 1)

    def test_long_numbers(self):
        for turning in long_turnings():
            self.assertIs(is_turning(turning), True)
            (a, b), (c, d) = turning
            self.assertIs(is_turning(((a, b), (c, d + 1))), a == 0)
            self.assertIs(is_turning(((b, a), (d, c))), False)
        self.assert_none([((LONGEST, 0), (0, LONGEST)), ((LONGEST, 1), (1, LONGEST))])

    def test_lists_are_none(self):
        self.assert_none([[[1, 0], [0, 1]], [(1, 0), (0, 1)], ([1, 0], [0, 1]), ((1, 0), [0, 1]), ([1, 0], (0, 1))])

    def test_other_lengths(self):
        self.assert_none([((1, 0),), ((1, 0), (0, 1), (0, 0)), ((1, 0, 0), (0, 1)), ((1, 0), (0, 1, 0)), ((1,), (0, 1)),
                          ((1, 0), (1,)), ((), ()), (1, 0, 0, 1), ((1, 0, 0, 1),), ((1, 0), ())])

    def test_numbers_that_are_not_whole(self):
        for other in (True, "1", None, [1], (1,), ""):
            self.assert_none([((other, 0), (0, 1)), ((1, 0), (0, other)), ((1, other), (0, 1)), ((1, 0), (other, 1))])
        self.assert_none([((1, False), (0, 1)), ((1, 0), (False, 1)), (True, 1), ((1, 0), 1), (1, (0, 1)),
                          ("10", "01"), ((1, 0), "01"), ("10", (0, 1)), ((1, 0), None)])

    def test_other_things(self):
        self.assert_none([*OTHER_THINGS, 0, 1, -1, LONGEST, (1, 0), [1, 0], (((1, 0), (0, 1)),)])

    def test_what_is_asked_of_stays_as_it_was(self):
        thing = [[1, 0], [0, 1]]
        is_turning(thing)
        is_turning((thing, thing))
        self.assertEqual(thing, [[1, 0], [0, 1]])


class TestLed(unittest.TestCase):
    def test_examples(self):
        self.assertEqual(led(((1, 3), (0, 1)), (1, 2)), (7, 2))
        self.assertEqual(led(H, (2, 3)), (-3, 2))
        self.assertEqual(led(H, (-2, 3)), (3, 2))
        self.assertEqual(led(H, (0, 1)), (1, 0))
        self.assertEqual(led(H, (1, 0)), (0, 1))
        self.assertEqual(led(((2, 1), (1, 1)), (-1, 1)), (1, 0))
        self.assertEqual(led(((2, 1), (1, 1)), (1, 0)), (2, 1))

    def test_small_ones(self):
        spots = [(1, 0), (0, 1), (1, 1), (-1, 1), (3, 2), (-5, 3)]
        for (a, b), (c, d) in small_turnings(3):
            for x, y in spots:
                told = led(((a, b), (c, d)), (x, y))
                self.assertTrue(is_place(told))
                self.assertEqual(told, place(a * x + b * y, c * x + d * y))
                self.assertEqual(told[0] * (c * x + d * y), told[1] * (a * x + b * y))

    def test_long_numbers(self):
        for turning in long_turnings():
            for spot in [(1, 0), (0, 1), *long_places()]:
                told = led(turning, spot)
                self.assertTrue(is_place(told))
                self.assertEqual(led(back(turning), told), spot)

    def test_neighbours_stay_neighbours(self):
        for turning in long_turnings():
            for one, other in (((1, 0), (5, 1)), ((1, 2), (1, 3)), ((-2, 3), (-5, 7)), ((0, 1), (1, LONGEST))):
                self.assertTrue(are_neighbours(led(turning, one), led(turning, other)))

    def test_all_signs_turned_leads_the_same(self):
        for spot in [(1, 0), (0, 1), (3, 2), *long_places()]:
            self.assertEqual(led(PLAIN, spot), spot)
            self.assertEqual(led(CONTRARY, spot), spot)


class TestMultiplied(unittest.TestCase):
    def test_examples(self):
        self.assertEqual(multiplied(((1, 2), (0, 1)), H), ((2, -1), (1, 0)))
        self.assertEqual(multiplied(H, ((1, 2), (0, 1))), ((0, -1), (1, 2)))
        self.assertEqual(multiplied(H, H), CONTRARY)

    def test_all_of_some(self):
        told = small_turnings(2) + long_turnings()
        for one in told:
            for other in told[::5]:
                both = multiplied(one, other)
                self.assertEqual(both, product(one, other))
                self.assertTrue(is_turning(both))
                for spot in ((1, 0), (0, 1), (-3, 5)):
                    self.assertEqual(led(both, spot), led(one, led(other, spot)))


class TestBack(unittest.TestCase):
    def test_examples(self):
        self.assertEqual(back(((2, 1), (1, 1))), ((1, -1), (-1, 2)))
        self.assertEqual(back(H), ((0, 1), (-1, 0)))

    def test_all_of_some(self):
        for turning in small_turnings(3) + long_turnings():
            (a, b), (c, d) = turning
            self.assertEqual(back(turning), ((d, -b), (-c, a)))
            self.assertTrue(is_turning(back(turning)))
            self.assertEqual(multiplied(turning, back(turning)), PLAIN)
            self.assertEqual(multiplied(back(turning), turning), PLAIN)


class TestByWord(unittest.TestCase):
    def by_meaning(self, word):
        turning = ((1, word[0]), (0, 1))
        for number in word[1:]:
            turning = product(product(turning, H), ((1, number), (0, 1)))
        return turning

    def test_examples(self):
        self.assertEqual(by_word([0]), PLAIN)
        self.assertEqual(by_word([7]), ((1, 7), (0, 1)))
        self.assertEqual(by_word([0, 0]), H)
        self.assertEqual(by_word([0, 0, 0]), CONTRARY)
        self.assertEqual(by_word([2, 0]), ((2, -1), (1, 0)))
        self.assertEqual(by_word([0, 2]), ((0, -1), (1, 2)))
        self.assertEqual(by_word([1, 2, 3]), ((1, 2), (2, 5)))

    def test_short_words(self):
        for many in (1, 2, 3, 4):
            for word in itertools.product(range(-2, 3), repeat=many):
                self.assertEqual(by_word(list(word)), self.by_meaning(word))

    def test_long_words(self):
        for word in ([3] * 300, [-1, 1] * 150, list(range(-150, 150)), [0] * 300, [0] * 299, [10 ** 59, -10 ** 59, 1],
                     [10 ** 60 - 1] * 30, [1 - 10 ** 60, 0, 5]):
            told = by_word(word)
            self.assertEqual(told, self.by_meaning(word))
            self.assertTrue(is_turning(told))

    def test_what_is_handed_in_stays(self):
        word = [3, -1, 0, 12]
        by_word(word)
        self.assertEqual(word, [3, -1, 0, 12])


class TestWordOf(unittest.TestCase):
    def assert_word(self, turning):
        word = word_of(turning)
        self.assertIs(type(word), list)
        self.assertTrue(1 <= len(word) <= 300)
        self.assertEqual({type(number) for number in word}, {int})
        self.assertEqual(by_word(word), turning)

    def test_small_ones(self):
        for turning in small_turnings(6):
            self.assert_word(turning)

    def test_powers_of_u_with_either_sign(self):
        for number in (0, 1, -1, 2, -2, LONGEST, -LONGEST):
            self.assert_word(((1, number), (0, 1)))
            self.assert_word(((-1, number), (0, -1)))
            self.assert_word(((1, 0), (number, 1)))
            self.assert_word(((-1, 0), (number, -1)))

    def test_long_numbers(self):
        for turning in long_turnings():
            self.assertTrue(all(abs(number) <= LONGEST for row in turning for number in row))
            self.assert_word(turning)
            self.assert_word(back(turning))

    def test_numbers_of_many_divisions(self):
        turning = fibonacci_turning(71)
        self.assertTrue(10 ** 29 < turning[0][0] <= LONGEST)
        (a, b), (c, d) = turning
        for told in (turning, back(turning), ((-a, -b), (-c, -d)), ((c, d), (-a, -b)), ((-c, -d), (a, b)),
                     ((a, -b), (-c, d)), ((-a, b), (c, -d)), ((d, c), (b, a))):
            self.assert_word(told)

    def test_what_was_told_may_be_handed_in(self):
        for one, other in zip(long_turnings(), long_turnings()[1:]):
            self.assert_word(multiplied(one, other))
        turning = by_word([3, -4] * 150)
        self.assertEqual(by_word(word_of(turning)), turning)


class TestToldLists(unittest.TestCase):
    def test_words(self):
        for turning in (PLAIN, CONTRARY, H, *long_turnings()):
            word = word_of(turning)
            kept = list(word)
            word[0] = "other"
            word.append("more")
            self.assertEqual(by_word(word_of(turning)), turning)
            again = word_of(turning)
            word.clear()
            self.assertEqual(by_word(again), turning)
            self.assertEqual(by_word(kept), turning)


if __name__ == "__main__":
    unittest.main()
