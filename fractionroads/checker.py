"""The checker: whether a thing is a paper that holds. It finds nothing out, it adds and compares."""

from fractionroads.deeds import is_deed, roads_led
from fractionroads.levels import Level, is_level
from fractionroads.numbers import common_divisor, is_whole
from fractionroads.places import is_place
from fractionroads.surface import halves, thirds
from fractionroads.turnings import is_pair, is_turning, led

MOST_TUPLES = 200


def is_tuple_of(thing, many):
    """True or False, of any thing: whether it is a tuple of so many things."""
    return isinstance(thing, tuple) and len(thing) == many


def tells_symbol(level, u, v):
    """True or False, of any two things: whether they are a pair that tells a symbol of the level."""
    return is_whole(u) and is_whole(v) and level.tells(u, v)


def is_load_tuple(level, thing):
    """True or False, of any thing: whether it is a symbol, so many times."""
    return is_tuple_of(thing, 3) and tells_symbol(level, thing[0], thing[1]) and is_whole(thing[2])


def is_load(level, thing):
    """True or False, of any thing: whether it is a load of the level."""
    if not isinstance(thing, list) or len(thing) > MOST_TUPLES:
        return False
    return all(is_load_tuple(level, each) for each in thing)


def is_fraction(thing):
    """True or False, of any thing: whether it is a fraction in lowest terms, its bottom from 1 on."""
    return is_pair(thing) and thing[1] >= 1 and common_divisor(thing[0], thing[1]) == 1


def is_sum(level, thing):
    """True or False, of any thing: whether it is a relation of the level, taken so many times."""
    if not is_tuple_of(thing, 4):
        return False
    word, u, v, times = thing
    return word in ("half", "third") and tells_symbol(level, u, v) and is_fraction(times)


def load_gap(level, one, other):
    """For each symbol how many times the one load has it, less how many times the other one has it."""
    told = [0] * len(level.symbols())
    for u, v, k in one:
        told[level.number_of(u, v)] += k
    for u, v, k in other:
        told[level.number_of(u, v)] -= k
    return told


def fraction_sum(one, other):
    """Two fractions together, not in lowest terms."""
    if one[1] == other[1]:
        return (one[0] + other[0], one[1])
    return (one[0] * other[1] + other[0] * one[1], one[1] * other[1])


def sums_made(level, sums):
    """For each symbol the fraction that relations, each so many times, come to."""
    half, third = halves(level), thirds(level)
    told = [(0, 1)] * len(half)
    for word, u, v, times in sums:
        number = level.number_of(u, v)
        relation = [number, half[number]] if word == "half" else [number, third[number], third[third[number]]]
        for each in relation:
            told[each] = fraction_sum(told[each], times)
    return told


def same_holds(level, one, other, sums):
    """True or False: whether the sums make the one load less the other one."""
    if not is_load(level, one) or not is_load(level, other):
        return False
    if not isinstance(sums, list) or not all(is_sum(level, each) for each in sums):
        return False
    made = sums_made(level, sums)
    return all(top == gap * bottom for gap, (top, bottom) in zip(load_gap(level, one, other), made))


def are_weights(level, thing):
    """True or False, of any thing: whether it is a list of whole numbers that each relation makes 0 of."""
    half, third = halves(level), thirds(level)
    if not isinstance(thing, list) or len(thing) != len(half) or not all(is_whole(each) for each in thing):
        return False
    pairs = [thing[number] + thing[half[number]] for number in range(len(half))]
    triples = [thing[number] + thing[third[number]] + thing[third[third[number]]] for number in range(len(half))]
    return not any(pairs) and not any(triples)


def apart_holds(level, one, other, weights):
    """True or False: whether the weights of the two loads are unlike."""
    if not is_load(level, one) or not is_load(level, other) or not are_weights(level, weights):
        return False
    return sum([gap * weight for gap, weight in zip(load_gap(level, one, other), weights)]) != 0


def led_holds(level, one, other, turning):
    """True or False: whether a turning of the level leads the one place to the other one."""
    if not is_place(one) or not is_place(other) or not is_turning(turning):
        return False
    return level.has(turning) and led(turning, one) == other


def is_road(thing):
    """True or False, of any thing: whether it is a tuple of two places."""
    return is_tuple_of(thing, 2) and is_place(thing[0]) and is_place(thing[1])


def deed_holds(level, m, one, other, roads):
    """True or False: whether the deed leads the road between two places to these roads."""
    if not is_deed(m) or not is_place(one) or not is_place(other):
        return False
    if not isinstance(roads, list) or not all(is_road(road) for road in roads):
        return False
    return sorted(roads) == sorted(roads_led(level, m, one, other))


def holds(thing):
    """True or False, of any thing: whether it is a paper that holds."""
    if not isinstance(thing, tuple) or len(thing) < 2 or not is_level(thing[1]):
        return False
    word, level = thing[0], Level(thing[1])
    if word == "same" and len(thing) == 5:
        return same_holds(level, thing[2], thing[3], thing[4])
    if word == "apart" and len(thing) == 5:
        return apart_holds(level, thing[2], thing[3], thing[4])
    if word == "led" and len(thing) == 5:
        return led_holds(level, thing[2], thing[3], thing[4])
    if word == "deed" and len(thing) == 6:
        return deed_holds(level, thing[2], thing[3], thing[4], thing[5])
    return False
