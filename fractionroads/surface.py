"""The surface of a level: its triangles of neighbours, glued at their edges."""

from fractionroads.levels import level_number


def halves(level):
    """For all symbols in order the numbers of their halves."""
    return [level.number_of(v, -u) for u, v in level.symbols()]


def thirds(level):
    """For all symbols in order the numbers of their thirds."""
    return [level.number_of(u + v, -u) for u, v in level.symbols()]


def following(level):
    """For all symbols in order the numbers of their following ones."""
    return [level.number_of(u, u + v) for u, v in level.symbols()]


def ring_from(leads, first):
    """The numbers that lead to one another, from this one on, as they lead."""
    ring = [first]
    while leads[ring[-1]] != first:
        ring.append(leads[ring[-1]])
    return ring


def rings(leads):
    """The rings in which numbers lead to one another: lists, each from its least number on, as they lead."""
    told = []
    seen = [False] * len(leads)
    for first in range(len(leads)):
        if not seen[first]:
            ring = ring_from(leads, first)
            for number in ring:
                seen[number] = True
            told.append(ring)
    return told


def sorted_rings(leads):
    """The rings as a sorted list of rising lists."""
    return sorted([sorted(ring) for ring in rings(leads)])


def edges(level):
    """The symbols that halves lead to one another: a sorted list of rising lists."""
    return sorted_rings(halves(level))


def triangles(level):
    """The symbols that thirds lead to one another: a sorted list of rising lists."""
    return sorted_rings(thirds(level))


def corners(level):
    """The symbols that following ones lead to one another: a sorted list of rising lists."""
    return sorted_rings(following(level))


def genus(level):
    """The whole number g for which 2 - 2 g is the corners, less the edges of two, and the triangles."""
    sides = [edge for edge in edges(level) if len(edge) == 2]
    return (2 - len(corners(level)) + len(sides) - len(triangles(level))) // 2


def folded_counted(n):
    """How many symbols of the level n are their own halves, told by rests alone."""
    level_number(n)
    return len([x for x in range(n) if (x * x + 1) % n == 0])


def cones_counted(n):
    """How many symbols of the level n are their own thirds, told by rests alone."""
    level_number(n)
    return len([x for x in range(n) if (x * x + x + 1) % n == 0])
