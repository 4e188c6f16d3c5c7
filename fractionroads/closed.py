"""Borders of rows, closed rows, their crossings and mirrors."""

from fractionroads.ends import end, ends
from fractionroads.errors import NotClosed
from fractionroads.rooms import added, check_row, symbol_road
from fractionroads.surface import following, halves, rings


def kept_ends(room):
    """For each kept symbol's road where in the list of ends it begins and where it comes to."""
    level = room.level()
    order = ends(level)
    roads = [symbol_road(level, number) for number in room.kept()]
    return [(order.index(end(level, one)), order.index(end(level, other))) for one, other in roads]


def border(room, row):
    """One whole number for each end: how often the row comes to it, less how often it begins there."""
    check_row(room, row)
    told = [0] * len(ends(room.level()))
    for number, (begin, come) in zip(row, kept_ends(room)):
        told[come] += number
        told[begin] -= number
    return told


def is_closed(room, row):
    """True or False: whether the border of a row has noughts alone."""
    return not any(border(room, row))


def unit_rows(many):
    """So many rows of so many numbers, each with 1 at its own place and 0 elsewhere."""
    return [[1 if at == own else 0 for at in range(many)] for own in range(many)]


def paths(pairs, many):
    """For each of so many ends a row that leads to it from the first one, by roads between pairs of ends."""
    units = unit_rows(len(pairs))
    found = {0: [0] * len(pairs)}
    # The kept roads join all ends, so that each time round one more end is found at least.
    while len(found) < many:
        for unit, (begin, come) in zip(units, pairs):
            if begin in found and come not in found:
                found[come] = added(found[begin], 1, unit)
            elif come in found and begin not in found:
                found[begin] = added(found[come], -1, unit)
    return found


def closing_rows(room):
    """For each kept road that closes a ring with those of the paths its place in a row, and the row of this ring."""
    pairs = kept_ends(room)
    found = paths(pairs, len(ends(room.level())))
    told = []
    for at, unit in enumerate(unit_rows(len(pairs))):
        begin, come = pairs[at]
        # Out to where the road begins, along it, and back: noughts, where the way out has this road as its last.
        row = added(added(unit, 1, found[begin]), -1, found[come])
        if any(row):
            told.append((at, row))
    return told


def closed_rows(room):
    """Rows of which each closed row is just one sum, each taken a whole number of times."""
    return [row for at, row in closing_rows(room)]


def closed_parts(room, row):
    """How many times a closed row takes each of the closed rows that are told."""
    # Each of these is the only one that has another number than 0 at its own place: 1.
    return [row[at] for at, ring in closing_rows(room)]


def flows(room, row):
    """For each symbol the flow of a row at it."""
    half = halves(room.level())
    numbers = [0] * len(half)
    for symbol, number in zip(room.kept(), row):
        numbers[symbol] = number
    return [numbers[half[symbol]] - numbers[symbol] for symbol in range(len(half))]


def crossing(room, one, other):
    """How often two closed rows cross."""
    check_row(room, one)
    check_row(room, other)
    if not is_closed(room, one) or not is_closed(room, other):
        raise NotClosed("only closed rows cross")
    first, second = flows(room, one), flows(room, other)
    twice = 0
    for corner in rings(following(room.level())):
        first_ahead, second_ahead = 0, 0
        for symbol in corner:
            twice += first_ahead * second[symbol] - first[symbol] * second_ahead
            first_ahead += first[symbol]
            second_ahead += second[symbol]
    return twice // 2


def mirrored(room, row):
    """The row that the mirror leads a row to."""
    check_row(room, row)
    level = room.level()
    symbols = level.symbols()
    load = []
    for number, many in zip(room.kept(), row):
        u, v = symbols[number]
        load.append((u, -v, many))
    return room.load_row(load)
