"""Papers: that two loads are the same in the room, by sums of relations, or apart, by weights."""

from fractionroads.places import place
from fractionroads.rooms import added
from fractionroads.surface import halves, ring_from, thirds


def clearings(room):
    """Relations (word, how many symbols it adds, ring of symbols) that clear their first symbols one after another.

    None of them brings back what was cleared ahead of it; only kept symbols are left in the end.
    """
    half, third = halves(room.level()), thirds(room.level())
    told = []
    # One that is settled needs only such as were settled ahead of it: so the last one is cleared first.
    for number in reversed(room.settled()):
        told.append(("half", 2, ring_from(half, half[number])))
        told.append(("third", 3, ring_from(third, number)))
    kept = room.kept()
    for number in range(len(half)):
        if number not in kept:
            told.append(("half", 2, ring_from(half, number)))
    return told


def relation_sums(room, times):
    """Sums of relations that make the symbols, each so many times; these are noughts in the room."""
    symbols = room.level().symbols()
    left = list(times)
    told = []
    for word, many, ring in clearings(room):
        needed = left[ring[0]]
        if needed != 0:
            for number in ring:
                left[number] -= needed
            u, v = symbols[ring[0]]
            # A relation adds a symbol that is alone in its ring two or three times, not once.
            told.append((word, u, v, place(needed, many // len(ring))))
    return told


def weights_at(room, at):
    """For each symbol its row's number at a place."""
    return [room.symbol_row(u, v)[at] for u, v in room.level().symbols()]


def judged(room, one, other):
    """The paper that two loads are the same in the room, or the one that they are apart."""
    times = added(room.load_times(one), -1, room.load_times(other))
    n = room.level().number()
    first, second = [(u, v, k) for u, v, k in one], [(u, v, k) for u, v, k in other]
    for at, number in enumerate(room.summed(times)):
        if number != 0:
            return ("apart", n, first, second, weights_at(room, at))
    return ("same", n, first, second, relation_sums(room, times))
