"""Places: the fractions in lowest terms, and the one beyond them all."""

from fractionroads.errors import NoPlace
from fractionroads.numbers import common_divisor, division, is_whole

BEYOND = (1, 0)


def place(top, bottom):
    """The place that stands for top divided by bottom."""
    if bottom == 0:
        if top == 0:
            raise NoPlace("two noughts make no place")
        return BEYOND
    shared = common_divisor(top, bottom)
    # A place's bottom is above 0: dividing by a number of its sign makes it so.
    if bottom < 0:
        shared = -shared
    return (top // shared, bottom // shared)


def is_place(thing):
    """True or False, of any thing."""
    if not isinstance(thing, tuple) or len(thing) != 2:
        return False
    top, bottom = thing
    if not is_whole(top) or not is_whole(bottom):
        return False
    if bottom == 0:
        return top == 1
    return bottom > 0 and common_divisor(top, bottom) == 1


def crossed(one, other):
    """The whole number that two places crossed come to."""
    return one[0] * other[1] - other[0] * one[1]


def are_neighbours(one, other):
    """True or False: whether two places cross in 1 or -1."""
    return abs(crossed(one, other)) == 1


def steps_to(place):
    """The list of places from (1, 0) to the place, by its division."""
    # (0, 1) is no step of its own: ahead of (1, 0) it makes the first step come out as k0 over 1.
    before, last = (0, 1), BEYOND
    steps = [last]
    for number in division(place[0], place[1]):
        before, last = last, (number * last[0] + before[0], number * last[1] + before[1])
        steps.append(last)
    return steps


def way(one, other):
    """The list of places from one back to (1, 0), and from there to the other."""
    return steps_to(one)[::-1] + steps_to(other)[1:]
