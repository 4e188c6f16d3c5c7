"""Ends of a level: places that its turnings lead to one another are at one end."""

from fractionroads.errors import Apart, NoEnd
from fractionroads.numbers import common_divisor, divisors
from fractionroads.turnings import back, is_pair, multiplied, shift, turning_to


def rests_by(n, d):
    """What the second number of an end (d, r) of the level n is a rest by."""
    return common_divisor(d, n // d)


def end(level, place):
    """The tuple (d, r) of the end that a place is at."""
    n = level.number()
    top, bottom = place
    d = common_divisor(bottom, n)
    return (d, top * (bottom // d) % rests_by(n, d))


def ends(level):
    """All ends, a sorted list of tuples."""
    told = []
    n = level.number()
    for d in divisors(n):
        g = rests_by(n, d)
        told += [(d, r) for r in range(g) if common_divisor(r, g) == 1]
    return told


def place_at(level, thing):
    """A place at the end that the thing is; things that are no ends are refused."""
    if not is_pair(thing) or thing not in ends(level):
        raise NoEnd("no end of this level")
    d, top = thing
    while common_divisor(top, d) != 1:
        top += rests_by(level.number(), d)
    return (top, d)


def leading(level, one, other):
    """A turning of the level that leads the one place to the other one."""
    first_back = back(turning_to(one))
    second = turning_to(other)
    # All turnings that lead the one to the other come so, but for the sign; by n they come again.
    for number in range(level.number()):
        turning = multiplied(multiplied(second, shift(number)), first_back)
        if level.has(turning):
            return turning
    raise Apart("the places are not at one end")


def width(level, place):
    """How wide the end is that a place is at."""
    n = level.number()
    d = common_divisor(place[1], n)
    return n // d // rests_by(n, d)
