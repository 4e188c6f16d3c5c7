"""Deeds: each leads a road to several roads, and so a row to a row."""

from fractionroads.errors import NoDeed
from fractionroads.numbers import common_divisor, divisors, is_whole
from fractionroads.places import place
from fractionroads.rooms import added, check_row, road_symbols, symbol_road

LAST_DEED = 20


def is_deed(thing):
    """True or False, of any thing: whether it is the number of a deed."""
    return is_whole(thing) and 1 <= thing <= LAST_DEED


def check_deed(thing):
    """Refuses any thing that is not the number of a deed."""
    if not is_deed(thing):
        raise NoDeed("a deed is a whole number from 1 to 20")


def moves(n, m):
    """The numbers (a, b, d) by which the deed m of the level n leads places, d rising, b rising."""
    parts = [(m // d, d) for d in divisors(m) if common_divisor(m // d, n) == 1]
    return [(a, b, d) for a, d in parts for b in range(d)]


def moved(move, spot):
    """Where a place (s, t) is led by a, b and d: to (a s + b t) / (d t)."""
    a, b, d = move
    s, t = spot
    return place(a * s + b * t, d * t)


def roads_led(level, m, one, other):
    """The roads that the deed m leads the road between two places to."""
    check_deed(m)
    return [(moved(move, one), moved(move, other)) for move in moves(level.number(), m)]


def symbol_deed(room, m, number):
    """The row of the deed of a symbol's road."""
    level = room.level()
    one, other = symbol_road(level, number)
    times = room.no_times()
    for begin, come in roads_led(level, m, one, other):
        for step in road_symbols(level, begin, come):
            times[step] += 1
    return room.summed(times)


def deed_table(room, m):
    """For each kept symbol, in order, the row of the deed of its road."""
    check_deed(m)
    return [symbol_deed(room, m, number) for number in room.kept()]


def by_table(row, table):
    """The sum of the rows of a table of as many columns, each so many times as the row tells."""
    told = [0] * len(row)
    for many, table_row in zip(row, table):
        told = added(told, many, table_row)
    return told


def deed(room, m, row):
    """The row that the deed m leads a row to."""
    check_deed(m)
    check_row(room, row)
    return by_table(row, deed_table(room, m))
