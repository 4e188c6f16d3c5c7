"""What the other modules need of whole numbers."""


def is_whole(thing):
    """True or False, of any thing: whether it is an int that is no truth."""
    return isinstance(thing, int) and not isinstance(thing, bool)


def common_divisor(one, other):
    """The greatest common divisor, never below 0; 0 only of two noughts."""
    while other != 0:
        one, other = other, one % other
    return abs(one)


def division(top, bottom):
    """The list k0, k1, .., kn for which top / bottom is k0 + 1 / (k1 + 1 / (.. + 1 / kn)).

    The bottom is not below 0. Behind k0 all numbers are from 1 on, the last one from 2 on.
    Of the bottom 0 the list is empty.
    """
    told = []
    while bottom != 0:
        whole, rest = divmod(top, bottom)
        told.append(whole)
        top, bottom = bottom, rest
    return told


def shares(one, other):
    """Whole numbers s and t: s times the one and t times the other make the greatest common divisor."""
    s, later_s = 1, 0
    t, later_t = 0, 1
    while other != 0:
        whole, rest = divmod(one, other)
        one, other = other, rest
        s, later_s = later_s, s - whole * later_s
        t, later_t = later_t, t - whole * later_t
    # The divisor itself is not below 0; the last rest may be.
    if one < 0:
        return (-s, -t)
    return (s, t)


def divisors(number):
    """What divides a whole number from 1 on: a rising list, from 1 to the number."""
    return [each for each in range(1, number + 1) if number % each == 0]


def primes_in(number):
    """The primes that divide a whole number from 1 on: a rising list."""
    return [each for each in divisors(number) if len(divisors(each)) == 2]
