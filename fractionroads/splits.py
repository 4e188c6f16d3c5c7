"""Deeds on the closed rows, their wide polynomials, and the rows that are new at a level."""

from fractionroads.closed import closed_parts, closed_rows, unit_rows
from fractionroads.deeds import by_table, deed_table
from fractionroads.levels import Level, level_number
from fractionroads.numbers import divisors, primes_in
from fractionroads.rooms import Room, added
from fractionroads.surface import genus
from fractionroads.turns import led_down


def closed_table(room, m):
    """For each closed row, in order, its deed as the sum of the closed rows: how many times each."""
    table = deed_table(room, m)
    return [closed_parts(room, by_table(row, table)) for row in closed_rows(room)]


def trace(table):
    """The sum of the numbers of a table that stand as far down as across."""
    return sum([row[at] for at, row in enumerate(table)])


def wide(table):
    """The determinant of x times the plain table less this one, the number of the power 0 first."""
    told = [1]
    units = unit_rows(len(table))
    helper = [[0] * len(table) for row in table]
    # Each number of the polynomial comes of those of the higher powers and a trace, divided without a rest.
    for step in range(1, len(table) + 1):
        helper = [added(by_table(row, helper), told[0], unit) for row, unit in zip(table, units)]
        product = [by_table(row, helper) for row in table]
        told = [-trace(product) // step] + told
    return told


def square_root(polynomial):
    """The polynomial that makes this one with itself; both have 1 at their highest powers."""
    falling = polynomial[::-1]
    root = [1]
    for at in range(1, len(falling) // 2 + 1):
        known = sum([root[step] * root[at - step] for step in range(1, at)])
        root.append((falling[at] - known) // 2)
    return root[::-1]


def half_wide(room, m):
    """The polynomial that with itself makes the wide one of the deed's closed table."""
    return square_root(wide(closed_table(room, m)))


def shadow(room, lowers, row):
    """All that a row is led down to by 1 and by p, to the lower rooms told with their p, in one list."""
    told = []
    for p, lower in lowers:
        told += led_down(room, lower, 1, row) + led_down(room, lower, p, row)
    return told


def cleared(vectors, at):
    """Sums of the vectors that have 0 at a place: as many as can be, none of them a sum of others."""
    told = [vector for vector in vectors if vector[at] == 0]
    others = [vector for vector in vectors if vector[at] != 0]
    while len(others) > 1:
        one, other = others.pop(), others.pop()
        while other[at] != 0:
            one, other = other, added(one, -(one[at] // other[at]), other)
        others.append(one)
        told.append(other)
    return told


def new_rows(room):
    """Closed rows that nothing is left of below, as many as can be, none of them a sum of others."""
    n = room.level().number()
    lowers = [(p, Room(Level(n // p))) for p in primes_in(n)]
    vectors = [shadow(room, lowers, row) + row for row in closed_rows(room)]
    below = sum([2 * len(lower.kept()) for p, lower in lowers])
    for at in range(below):
        vectors = cleared(vectors, at)
    return [vector[below:] for vector in vectors]


def new_share(number):
    """How many times the closed rows of a level count at a level that it goes into so often."""
    told = 1
    for p in primes_in(number):
        if number % (p * p * p) == 0:
            return 0
        if number % (p * p) != 0:
            told = -2 * told
    return told


def new_counted(n):
    """How many new rows the level n has, told by the genus of what divides it."""
    level_number(n)
    return sum([2 * genus(Level(k)) * new_share(n // k) for k in divisors(n)])
