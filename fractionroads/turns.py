"""Turns by exact parts of a level, and rows led down to the levels that divide it and up from them."""

from fractionroads.errors import NoPart
from fractionroads.numbers import common_divisor, is_whole, shares
from fractionroads.rooms import added, check_row, symbol_road
from fractionroads.turnings import led


def divides(thing, number):
    """True or False, of any thing: whether it is a whole number from 1 on that divides the number."""
    return is_whole(thing) and thing >= 1 and number % thing == 0


def carried(room, target, table, row):
    """The row of the target room that a row comes to where a table of two rows leads the places of all roads."""
    level = room.level()
    told = [0] * len(target.kept())
    for number, many in zip(room.kept(), row):
        one, other = symbol_road(level, number)
        told = added(told, many, target.road_row(led(table, one), led(table, other)))
    return told


def turn_table(n, q):
    """The table by which the turn of an exact part leads places."""
    # Of s, t, w and z two can be 1: then q z - (n / q) t is 1, as q and n / q have no common divisor.
    z, lack = shares(q, n // q)
    return ((q, -lack), (n, q * z))


def turned(room, q, row):
    """The row that the turn of an exact part leads a row to."""
    n = room.level().number()
    if not divides(q, n) or common_divisor(q, n // q) != 1:
        raise NoPart("no exact part of the level")
    check_row(room, row)
    return carried(room, room, turn_table(n, q), row)


def times_below(room, lower):
    """How many times the level of the lower room goes into that of the room."""
    n, k = room.level().number(), lower.level().number()
    if n % k != 0:
        raise NoPart("the lower level does not divide the level")
    return n // k


def led_down(room, lower, d, row):
    """The row of the lower room that a row of the room is led down to by d."""
    if not divides(d, times_below(room, lower)):
        raise NoPart("a row is led down by what divides one level by the other")
    check_row(room, row)
    return carried(room, lower, ((d, 0), (0, 1)), row)


def led_up(lower, room, row):
    """The row of the room that a row of the lower room is led up to."""
    times_below(room, lower)
    check_row(lower, row)
    level = lower.level()
    many = dict(zip(lower.kept(), row))
    return room.summed([many.get(level.number_of(u, v), 0) for u, v in room.level().symbols()])
