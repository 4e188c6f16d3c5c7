"""What the other modules need of whole numbers."""


def is_whole(thing):
    """True or False, of any thing: whether it is an int that is no truth."""
    return isinstance(thing, int) and not isinstance(thing, bool)


def common_divisor(one, other):
    """The greatest common divisor, never below 0; 0 only of two noughts."""
    while other != 0:
        one, other = other, one % other
    return abs(one)


def division(top, bottom):
    """The list k0, k1, .., kn for which top / bottom is k0 + 1 / (k1 + 1 / (.. + 1 / kn)).

    The bottom is not below 0. Behind k0 all numbers are from 1 on, the last one from 2 on.
    Of the bottom 0 the list is empty.
    """
    told = []
    while bottom != 0:
        whole, rest = divmod(top, bottom)
        told.append(whole)
        top, bottom = bottom, rest
    return told
