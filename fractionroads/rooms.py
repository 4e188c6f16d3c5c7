"""The room of roads of a level: each road is a row of few whole numbers."""

from fractionroads.errors import NoRow
from fractionroads.numbers import is_whole
from fractionroads.places import crossed, way
from fractionroads.surface import corners, edges, halves, ring_from, thirds, triangles
from fractionroads.turnings import led


def added(row, many, other):
    """The row, and the other one so many times."""
    return [whole + many * part for whole, part in zip(row, other)]


def ring_numbers(many, told_rings):
    """For each of so many symbols, in order, which one of the rings it is in."""
    numbers = [0] * many
    for at, ring in enumerate(told_rings):
        for symbol in ring:
            numbers[symbol] = at
    return numbers


def joining(sides, half, group):
    """Of edges, each told by one of its symbols, some that join without a ring all groups that the edges join.

    An edge joins the group of its symbol to that of this one's half.
    """
    told = []
    for side in sides:
        old, new = group[side], group[half[side]]
        if old != new:
            told.append(side)
            group = [new if each == old else each for each in group]
    return told


def chosen(level):
    """The numbers of the symbols that a room of the level keeps, rising."""
    half = halves(level)
    sides = [edge[0] for edge in edges(level) if len(edge) == 2]
    tree = joining(sides, half, ring_numbers(len(half), corners(level)))
    others = [side for side in sides if side not in tree]
    # Each triangle but one settles one edge by its other two, so just as many edges need not be kept.
    settled = joining(others, half, ring_numbers(len(half), triangles(level)))
    return [side for side in sides if side not in settled]


def settle(rows, half, number, row):
    """Writes a symbol's row, and the contrary one of its half."""
    rows[number] = row
    rows[half[number]] = [-each for each in row]


def settled_order(level, kept):
    """The symbols whose rows the others of their triangles settle, each behind those that it needs."""
    half = halves(level)
    told_triangles = triangles(level)
    known = [half[number] == number or number in kept or half[number] in kept for number in range(len(half))]
    order = []
    while False in known:
        for triangle in told_triangles:
            lacking = [number for number in triangle if not known[number]]
            if len(lacking) == 1:
                order.append(lacking[0])
                known[lacking[0]] = True
                known[half[lacking[0]]] = True
    return order


def rows_by(level, kept, order):
    """For each symbol its row, by the kept ones, and by the order in which the others are settled."""
    half, third = halves(level), thirds(level)
    noughts = [0] * len(kept)
    rows = [noughts] * len(half)
    for at, number in enumerate(kept):
        settle(rows, half, number, noughts[:at] + [1] + noughts[at + 1:])
    for number in order:
        row = noughts
        for other in ring_from(third, number)[1:]:
            row = added(row, -1, rows[other])
        settle(rows, half, number, row)
    return rows


def symbol_road(level, number):
    """The two places that a symbol's road leads from and to."""
    turning = level.turning_of(number)
    return (led(turning, (0, 1)), led(turning, (1, 0)))


def road_symbols(level, one, other):
    """The numbers of the symbols that the steps of a road between two places are, by the way of the steps."""
    walk = way(one, other)
    return [level.number_of(there[1], crossed(there, here) * here[1]) for here, there in zip(walk, walk[1:])]


class Room:
    """The room of a level: its kept symbols, and the rows of symbols, loads and roads."""

    def __init__(self, level):
        self.own_level = level
        self.kept_numbers = chosen(level)
        self.settled_numbers = settled_order(level, self.kept_numbers)
        self.symbol_rows = rows_by(level, self.kept_numbers, self.settled_numbers)

    def level(self):
        """The level."""
        return self.own_level

    def kept(self):
        """The numbers of the kept symbols, rising."""
        return list(self.kept_numbers)

    def settled(self):
        """The numbers of the symbols that their triangles settle, each behind those that settle it."""
        return list(self.settled_numbers)

    def symbol_row(self, u, v):
        """The row of the symbol that a pair tells."""
        return list(self.symbol_rows[self.own_level.number_of(u, v)])

    def load_row(self, load):
        """The row of a load, a list of tuples (u, v, k)."""
        return self.summed(self.load_times(load))

    def load_times(self, load):
        """For each symbol how many times a load has it."""
        times = self.no_times()
        for u, v, k in load:
            times[self.own_level.number_of(u, v)] += k
        return times

    def road_row(self, one, other):
        """The row of the road from the one place to the other one."""
        times = self.no_times()
        for number in road_symbols(self.own_level, one, other):
            times[number] += 1
        return self.summed(times)

    def no_times(self):
        """A nought for each symbol."""
        return [0] * len(self.symbol_rows)

    def summed(self, times):
        """The row of all symbols together, each so many times as the list tells."""
        row = [0] * len(self.kept_numbers)
        for many, part in zip(times, self.symbol_rows):
            if many != 0:
                row = added(row, many, part)
        return row


def check_row(room, thing):
    """Refuses any thing that is no row of the room."""
    if not isinstance(thing, list) or len(thing) != len(room.kept()):
        raise NoRow("a row is a list of as many numbers as symbols are kept")
    if not all(is_whole(number) for number in thing):
        raise NoRow("a row has whole numbers alone")
