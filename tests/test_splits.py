"""Points 24 and 25: closed tables, wide polynomials, halves, traces, new rows; point 2 of what they tell."""

import itertools
import math
import random
import unittest

import reference
from common import LEVELS, LONG, LONGEST, OTHER_THINGS, added, refusal, spoil, times
from fractionroads.closed import closed_rows, is_closed
from fractionroads.deeds import deed
from fractionroads.errors import NoDeed, NoLevel
from fractionroads.levels import Level
from fractionroads.rooms import Room
from fractionroads.splits import closed_table, half_wide, new_counted, new_rows, trace, wide
from fractionroads.surface import genus
from fractionroads.turns import led_down

ROOMS = {n: Room(Level(n)) for n in LEVELS}
CLOSED = {n: closed_rows(room) for n, room in ROOMS.items()}
DEEDS = range(1, 21)
TABLES = {(n, m): closed_table(ROOMS[n], m) for n in LEVELS for m in DEEDS}
SOME_LEVELS = (1, 2, 11, 12, 22, 23, 26, 36, 37, 42, 45, 48)
# How many new rows there are, half of them counted: told by tables of others, levels of genus 0 left out.
NEW_HALVES = {11: 1, 14: 1, 15: 1, 17: 1, 19: 1, 20: 1, 21: 1, 22: 0, 23: 2, 24: 1, 26: 2, 27: 1, 28: 0, 29: 2, 30: 1,
              31: 2, 32: 1, 33: 1, 34: 1, 35: 3, 36: 1, 37: 2, 38: 2, 39: 3, 40: 1, 41: 3, 42: 1, 43: 3, 44: 1, 45: 1,
              46: 1, 47: 4, 48: 1}


def random_table(many, most, seed):
    chance = random.Random(seed)
    return [[chance.randrange(-most, most + 1) for column in range(many)] for row in range(many)]


def multiplied(one, other):
    told = [0] * (len(one) + len(other) - 1)
    for at, number in enumerate(one):
        for place, factor in enumerate(other):
            told[at + place] += number * factor
    return told


def by_all_orders(table):
    """The wide polynomial through all orders of the columns."""
    many = len(table)
    told = [0] * (many + 1)
    for order in itertools.permutations(range(many)):
        turns = sum(order[one] > order[other] for other in range(many) for one in range(other))
        part = [(-1) ** turns]
        for row, column in enumerate(order):
            part = multiplied(part, [-table[row][column], int(row == column)])
        told = added(told, part + [0] * (many + 1 - len(part)))
    return told


def value(polynomial, x):
    return sum(number * x ** power for power, number in enumerate(polynomial))


def table_at(table, x):
    """x times the plain table less this one."""
    return [[x * int(row == column) - number for column, number in enumerate(numbers)]
            for row, numbers in enumerate(table)]


class TestClosedTable(unittest.TestCase):
    def test_each_deed_of_each_closed_row(self):
        for n in LEVELS:
            room = ROOMS[n]
            for m in DEEDS:
                table = TABLES[(n, m)]
                self.assertEqual(len(table), len(CLOSED[n]))
                for row, shares in zip(CLOSED[n], table):
                    self.assertEqual(len(shares), len(CLOSED[n]))
                    told = [0] * len(room.kept())
                    for many, closed in zip(shares, CLOSED[n]):
                        told = added(told, times(many, closed))
                    self.assertEqual(told, deed(room, m, row))

    def test_kinds(self):
        for table in TABLES.values():
            self.assertIs(type(table), list)
            self.assertEqual({type(row) for row in table} - {list}, set())
            self.assertEqual({type(number) for row in table for number in row} - {int}, set())

    def test_examples(self):
        self.assertEqual(TABLES[(1, 5)], [])
        self.assertEqual(TABLES[(12, 20)], [])
        for m, many in ((1, 1), (2, -2), (3, -1), (4, 2), (5, 1), (6, 2), (7, -2), (11, 1), (13, 4), (20, 2)):
            self.assertEqual(TABLES[(11, m)], [[many, 0], [0, many]])

    def test_the_deed_1(self):
        for n, rows in CLOSED.items():
            self.assertEqual(TABLES[(n, 1)], [[int(one == other) for other in range(len(rows))]
                                              for one in range(len(rows))])

    def test_no_deed(self):
        for n in (1, 2, 11, 48):
            for thing in (0, -1, 21, LONG, -LONGEST, [1], (2,), *OTHER_THINGS):
                self.assertIs(refusal(closed_table, ROOMS[n], thing), NoDeed, repr(thing)[:60])
                self.assertIs(refusal(half_wide, ROOMS[n], thing), NoDeed, repr(thing)[:60])


class TestWide(unittest.TestCase):
    def test_examples(self):
        self.assertEqual(wide([]), [1])
        self.assertEqual(wide([[5]]), [-5, 1])
        self.assertEqual(wide([[0]]), [0, 1])
        self.assertEqual(wide([[1, 2], [3, 4]]), [-2, -5, 1])
        self.assertEqual(wide([[0, 1, 0], [0, 0, 1], [7, -5, 3]]), [-7, 5, -3, 1])
        self.assertEqual(wide([[0] * 10 for row in range(10)]), [0] * 10 + [1])

    def test_by_all_orders_of_the_columns(self):
        for many in range(6):
            for seed in range(4):
                for most in (1, 9, LONG):
                    table = random_table(many, most, seed)
                    self.assertEqual(wide(table), by_all_orders(table))

    def test_at_numbers(self):
        for many in range(11):
            for most in (1, 20, LONG):
                table = random_table(many, most, many)
                told = wide(table)
                self.assertIs(type(told), list)
                self.assertEqual({type(number) for number in told}, {int})
                self.assertEqual((len(told), told[-1]), (many + 1, 1))
                for x in range(-(many // 2), many // 2 + 2):
                    self.assertEqual(value(told, x), reference.determinant(table_at(table, x)))

    def test_tables_of_few_numbers(self):
        """Noughts in many places, rows that are the same, whole numbers of sixty figures on the way across."""
        for many in (3, 7, 10):
            table = [[0] * many for row in range(many)]
            table[0][many - 1] = LONG
            self.assertEqual(wide(table), [0] * many + [1])
            for at in range(many):
                table[at][at] = at
            told = [1]
            for at in range(many):
                told = multiplied(told, [-at, 1])
            self.assertEqual(wide(table), told)
            self.assertEqual(wide([[1] * many for row in range(many)]), [0] * (many - 1) + [-many, 1])

    def test_of_closed_tables(self):
        for (n, m), table in TABLES.items():
            told = wide(table)
            self.assertEqual(len(told), len(table) + 1)
            for x in (0, 1, -7):
                self.assertEqual(value(told, x), reference.determinant(table_at(table, x)))


class TestHalfWide(unittest.TestCase):
    def test_with_itself(self):
        for (n, m), table in TABLES.items():
            told = half_wide(ROOMS[n], m)
            self.assertIs(type(told), list)
            self.assertEqual({type(number) for number in told}, {int})
            self.assertEqual((len(told), told[-1]), (genus(ROOMS[n].level()) + 1, 1))
            self.assertEqual(multiplied(told, told), wide(table))

    def test_examples(self):
        self.assertEqual(half_wide(ROOMS[1], 7), [1])
        self.assertEqual(half_wide(ROOMS[11], 2), [2, 1])
        self.assertEqual(half_wide(ROOMS[23], 2), [-1, 1, 1])
        self.assertEqual(half_wide(ROOMS[37], 2), [0, 2, 1])
        self.assertEqual(half_wide(ROOMS[47], 2), [-1, 5, -5, -1, 1])
        self.assertEqual(half_wide(ROOMS[22], 11), [1, -2, 1])
        self.assertEqual(half_wide(ROOMS[22], 2), [2, 2, 1])


class TestTrace(unittest.TestCase):
    def test_examples(self):
        self.assertEqual(trace([]), 0)
        self.assertEqual(trace([[-4]]), -4)
        self.assertEqual(trace([[1, 2], [3, 4]]), 5)
        for many in range(11):
            table = random_table(many, LONG, many)
            self.assertEqual(trace(table), sum(table[at][at] for at in range(many)))

    def test_the_wide_polynomial_tells_it(self):
        for table in TABLES.values():
            self.assertEqual(trace(table), -wide(table)[-2] if table else 0)

    def test_the_mirror_halves_it(self):
        for (n, m), table in TABLES.items():
            self.assertEqual(trace(table), -2 * half_wide(ROOMS[n], m)[-2] if table else 0)


class TestNewRows(unittest.TestCase):
    def test_led_down_to_noughts(self):
        for n, room in ROOMS.items():
            told = new_rows(room)
            self.assertIs(type(told), list)
            self.assertEqual(reference.rank(told), len(told))
            for row in told:
                self.assertIs(type(row), list)
                self.assertEqual({type(number) for number in row}, {int})
                self.assertIs(is_closed(room, row), True)
                for p in [p for p in (2, 3, 5, 7, 11, 13, 17, 19, 23, 29, 31, 37, 41, 43, 47) if n % p == 0]:
                    for d in (1, p):
                        self.assertFalse(any(led_down(room, ROOMS[n // p], d, row)))

    def test_as_many_as_can_be(self):
        for n, room in ROOMS.items():
            primes = [p for p in range(2, n + 1) if n % p == 0 and all(p % q for q in range(2, p))]
            below = []
            for row in CLOSED[n]:
                parts = [led_down(room, ROOMS[n // p], d, row) for p in primes for d in (1, p)]
                below.append([number for part in parts for number in part])
            rank = reference.rank(below) if below and below[0] else 0
            self.assertEqual(len(new_rows(room)), len(CLOSED[n]) - rank)
            self.assertEqual(len(new_rows(room)), new_counted(n))

    def test_deeds_leave_them_new(self):
        for n in SOME_LEVELS:
            rows = new_rows(ROOMS[n])
            for m in (2, 3, 5):
                if rows and math.gcd(m, n) == 1:
                    self.assertEqual(reference.rank(rows + [deed(ROOMS[n], m, row) for row in rows]), len(rows))


class TestNewCounted(unittest.TestCase):
    def test_told_numbers(self):
        for n in LEVELS:
            told = new_counted(n)
            self.assertIs(type(told), int)
            self.assertEqual(told, 2 * NEW_HALVES.get(n, 0), n)

    def test_all_levels_below_together(self):
        """Each new row of a level below comes up by each divisor of what is left."""
        for n in LEVELS:
            told = sum(new_counted(k) * len([d for d in range(1, n // k + 1) if n // k % d == 0])
                       for k in range(1, n + 1) if n % k == 0)
            self.assertEqual(told, 2 * genus(Level(n)))

    def test_no_level(self):
        for thing in (0, -1, 49, 50, LONG, -LONGEST, [11], (11,), "11", *OTHER_THINGS):
            self.assertIs(refusal(new_counted, thing), NoLevel, repr(thing)[:60])


class TestPointTwo(unittest.TestCase):
    def test_tables_handed_in_stay(self):
        for many in (0, 1, 4, 10):
            table = random_table(many, LONG, many)
            kept = [list(row) for row in table]
            told = wide(table)
            trace(table)
            self.assertEqual(table, kept)
            before = list(told)
            for row in table:
                row.append(5)
            self.assertEqual(told, before)

    def test_things_that_were_refused_stay(self):
        thing = [[1], 2]
        for ask in (closed_table, half_wide):
            refusal(ask, ROOMS[11], thing)
        refusal(new_counted, thing)
        self.assertEqual(thing, [[1], 2])

    def test_told_lists(self):
        for n in SOME_LEVELS:
            room = Room(Level(n))
            for ask in (lambda: closed_table(room, 2), lambda: half_wide(room, 3), lambda: new_rows(room),
                        lambda: wide([[1, 2], [3, 4]]), lambda: wide([])):
                earlier, before = ask(), ask()
                told = ask()
                spoil(told)
                self.assertEqual(ask(), before)
                self.assertEqual(earlier, before)

    def test_the_room_stays(self):
        for n in (22, 37):
            room = Room(Level(n))
            before = (room.kept(), closed_rows(room), [room.symbol_row(*pair) for pair in room.level().symbols()])
            for told in (new_rows(room), closed_table(room, 2)):
                for row in told:
                    row.clear()
            after = (room.kept(), closed_rows(room), [room.symbol_row(*pair) for pair in room.level().symbols()])
            self.assertEqual(after, before)


if __name__ == "__main__":
    unittest.main()
