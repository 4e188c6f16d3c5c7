"""Turnings: tables ((a, b), (c, d)) of whole numbers, a d - b c being 1, that lead places to places."""

from fractionroads.numbers import is_whole, shares
from fractionroads.places import place

H = ((0, -1), (1, 0))


def is_pair(thing):
    """True or False, of any thing: whether it is a tuple of two whole numbers."""
    return isinstance(thing, tuple) and len(thing) == 2 and is_whole(thing[0]) and is_whole(thing[1])


def is_turning(thing):
    """True or False, of any thing."""
    if not isinstance(thing, tuple) or len(thing) != 2:
        return False
    if not is_pair(thing[0]) or not is_pair(thing[1]):
        return False
    (a, b), (c, d) = thing
    return a * d - b * c == 1


def led(turning, spot):
    """The place that a turning leads a place to."""
    (a, b), (c, d) = turning
    x, y = spot
    return place(a * x + b * y, c * x + d * y)


def multiplied(one, other):
    """The turning that does what the other one does, and then what the one does."""
    (a, b), (c, d) = one
    (e, f), (g, h) = other
    return ((a * e + b * g, a * f + b * h), (c * e + d * g, c * f + d * h))


def back(turning):
    """The turning that leads each place back."""
    (a, b), (c, d) = turning
    return ((d, -b), (-c, a))


def shift(number):
    """U to the power of a whole number."""
    return ((1, number), (0, 1))


def by_word(word):
    """The turning of a word: U to each of its numbers in their order, H between each two."""
    turning = shift(word[0])
    for number in word[1:]:
        turning = multiplied(multiplied(turning, H), shift(number))
    return turning


def word_of(turning):
    """A word of a turning."""
    (a, b), (c, d) = turning
    word = []
    while c != 0:
        # The nearest whole number, not the one below: so a word is as short as it can be.
        number = (2 * a + c) // (2 * c)
        word.append(number)
        a, b, c, d = c, d, number * c - a, number * d - b
    # What is left is U to some power, or that with all signs turned, which H twice makes.
    if a == 1:
        return word + [b]
    return word + [0, 0, -b]


def turning_to(spot):
    """A turning that leads (1, 0) to a place."""
    a, c = spot
    d, lack = shares(a, c)
    return ((a, -lack), (c, d))


def turning_over(c, d):
    """A turning whose lower numbers are these two, which have no common divisor but 1."""
    a, lack = shares(d, c)
    return ((a, -lack), (c, d))
