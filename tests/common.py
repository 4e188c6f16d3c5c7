"""What several of the tests need."""

import math
import random

from fractionroads.errors import RoadError

# The longest numbers of places, turnings and symbols that are handed in; of rows and loads.
LONGEST = 10 ** 30 - 1
LONG = 10 ** 60 - 1
# Two primes of fifteen figures: their products have twenty-nine.
PRIME = 100000000000031
OTHER_PRIME = 100000000000067
LEVELS = range(1, 49)
SMALL_PLACES = [(1, 0)] + [(top, bottom) for bottom in range(1, 8) for top in range(-5, 6)
                           if math.gcd(top, bottom) == 1]


def nested(depth, thing):
    """The thing in lists and tuples, by turns, so many deep."""
    for at in range(depth):
        thing = [thing] if at % 2 == 0 else (thing,)
    return thing


# Things that are no whole numbers, and no lists, pairs or tables of them.
OTHER_THINGS = (
    True, False, None, "", "1", "12", "(1, 0)", [], (), [None], (None,), [True], (True,), ["1"], ("1", "0"),
    [[]], [()], ([],), ((),), (True, False), ((True, False), (False, True)), nested(5, 1), nested(5, "a"),
    [None] * 2000, ("",) * 2000, [[True] * 40] * 40,
)


def refusal(ask, *arguments):
    """The class of the refusal that is told, None where nothing is refused."""
    try:
        ask(*arguments)
    except RoadError as error:
        return error.__class__
    return None


def small_turnings(most):
    """All turnings of numbers from -most to most."""
    numbers = range(-most, most + 1)
    return [((a, b), (c, d)) for a in numbers for b in numbers for c in numbers for d in numbers
            if a * d - b * c == 1]


def product(one, other):
    """Two tables of two rows multiplied, written apart from the program."""
    return tuple(tuple(sum(one[row][at] * other[at][column] for at in (0, 1)) for column in (0, 1))
                 for row in (0, 1))


def long_turnings():
    """Turnings whose numbers have up to thirty figures, of either sign."""
    told = []
    for word in ([3, -7, 12345678901, 5, -99999999, 2], [10 ** 14, -10 ** 14, 3], [0, 10 ** 28 + 9, 1],
                 [1, -1] * 3 + [7 ** 30], [3] * 70, [-3] * 70, [2, -2] * 38, [-1, 3, -10 ** 13, 4, 10 ** 13, -2]):
        turning = ((1, word[0]), (0, 1))
        for number in word[1:]:
            turning = product(turning, ((0, -1), (1, 0)))
            turning = product(turning, ((1, number), (0, 1)))
        told.append(turning)
        told.append(tuple(tuple(-number for number in row) for row in turning))
    return told


def long_places():
    """Places whose numbers have up to thirty figures, of either sign."""
    one, other = 1, 1
    for step in range(141):
        one, other = one + other, one
    told = [(PRIME * PRIME, OTHER_PRIME * OTHER_PRIME), (LONGEST, LONGEST - 1), (1, LONGEST), (LONGEST, 1),
            (one, other), (other, one), (12345678901234567890123456789, 2 ** 90), (7 ** 35, 48 ** 17)]
    return told + [(-top, bottom) for top, bottom in told]


def added(*rows):
    return [sum(numbers) for numbers in zip(*rows)]


def times(many, row):
    return [many * number for number in row]


def long_row(room, seed):
    """A row of numbers of sixty figures, of either sign."""
    chance = random.Random(seed)
    return [chance.randrange(-LONG, LONG + 1) for number in room.kept()]


def no_rows(room):
    """Things that are no rows of a room."""
    many = len(room.kept())
    told = [[0] * (many + 1), [1] * (many + 2), (0,) * many, [[0] * many], ([0] * many,), tuple([0] * (many + 1)),
            "0" * many, 0, many, LONGEST, [0] * 2000, nested(5, 0)]
    told += [thing for thing in OTHER_THINGS if thing != []]
    if many > 0:
        told += [[], [0] * (many - 1)]
        for wrong in (True, False, None, "0", [], [0], (), (0,)):
            told += [[wrong] + [0] * (many - 1), [0] * (many - 1) + [wrong], [wrong] * many]
    return told


def spoil(told):
    """Changes a told list, and the lists within it."""
    for inner in told:
        if isinstance(inner, list):
            spoil(inner)
    told.append("more")
    told[0] = "other"


def random_load(level, seed, many, figures):
    """A load of so many tuples; pairs of long numbers, of either sign."""
    chance = random.Random(seed)
    n = level.number()
    symbols = level.symbols()
    told = []
    for each in range(many):
        u, v = chance.choice(symbols)
        k = chance.randrange(-10 ** figures + 1, 10 ** figures)
        told.append((u + n * chance.randrange(-10 ** 20, 10 ** 20), v + n * chance.randrange(-10 ** 20, 10 ** 20), k))
    return told
