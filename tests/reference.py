"""The room of a level told once more by the words of the document, slowly, and apart from the program."""

import collections
import functools
import math
import random
from fractions import Fraction


@functools.cache
def symbol_list(n):
    units = [k for k in range(1, n + 1) if math.gcd(k, n) == 1]
    least = {}
    for u in range(n):
        for v in range(n):
            if math.gcd(u, v, n) == 1:
                least[(u, v)] = min((k * u % n, k * v % n) for k in units)
    return sorted(set(least.values())), least


def leads(n, move):
    """The numbers of the symbols that a move (of u and v) leads the symbols to."""
    symbols, least = symbol_list(n)
    told = []
    for pair in symbols:
        u, v = move(*pair)
        told.append(symbols.index(least[(u % n, v % n)]))
    return told


@functools.cache
def half_list(n):
    return leads(n, lambda u, v: (v, -u))


@functools.cache
def third_list(n):
    return leads(n, lambda u, v: (u + v, -u))


def following_list(n):
    return leads(n, lambda u, v: (u, u + v))


def relations(n):
    """The relations of point 13: for each the numbers of the symbols that come to nothing together."""
    half, third = half_list(n), third_list(n)
    many = range(len(half))
    return [(x, half[x]) for x in many] + [(x, third[x], third[third[x]]) for x in many]


def relation_vectors(n):
    many = len(symbol_list(n)[0])
    told = []
    for relation in relations(n):
        vector = [0] * many
        for symbol in relation:
            vector[symbol] += 1
        told.append(vector)
    return told


def reduced(vectors, order):
    """Vectors with the same sums, each led by a place that no other one has; by fractions, places in this order."""
    found = {}
    for vector in vectors:
        vector = {at: Fraction(number) for at, number in enumerate(vector) if number != 0}
        for at in [at for at in order if at in found]:
            take(vector, vector.get(at, 0), found[at])
        lead = next((at for at in order if at in vector), None)
        if lead is None:
            continue
        vector = {at: number / vector[lead] for at, number in vector.items()}
        for other in found.values():
            take(other, other.get(lead, 0), vector)
        found[lead] = vector
    return found


def take(vector, many, other):
    if many != 0:
        for at, number in other.items():
            vector[at] = vector.get(at, 0) - many * number
            if vector[at] == 0:
                del vector[at]


def rank(vectors):
    return len(reduced(vectors, range(len(vectors[0])))) if vectors else 0


class OtherRoom:
    """A room that keeps other symbols, chosen by a seed; its rows may have fractions."""

    def __init__(self, n, seed):
        self.n = n
        self.symbols, self.least = symbol_list(n)
        order = list(range(len(self.symbols)))
        random.Random(seed).shuffle(order)
        self.found = reduced(relation_vectors(n), order)
        self.half, self.after = half_list(n), following_list(n)

    def kept(self):
        return [at for at in range(len(self.symbols)) if at not in self.found]

    def load_vector(self, load):
        """For each symbol how many times it is taken, the symbols that are not kept not at all."""
        vector = {}
        for u, v, k in load:
            symbol = self.symbols.index(self.least[(u % self.n, v % self.n)])
            vector[symbol] = vector.get(symbol, 0) + Fraction(k)
        for at in list(vector):
            if at in vector and at in self.found:
                take(vector, vector[at], self.found[at])
        return vector

    def flow(self, vector, symbol):
        return vector.get(self.half[symbol], 0) - vector.get(symbol, 0)

    def crossing(self, one_load, other_load):
        """Point 18, word by word, each corner begun at its greatest symbol."""
        one, other = self.load_vector(one_load), self.load_vector(other_load)
        told = Fraction(0)
        left = set(range(len(self.symbols)))
        while left:
            corner = [max(left)]
            while self.after[corner[-1]] != corner[0]:
                corner.append(self.after[corner[-1]])
            left -= set(corner)
            for at, y in enumerate(corner):
                for x in corner[:at]:
                    told += self.flow(one, x) * self.flow(other, y) - self.flow(one, y) * self.flow(other, x)
        return told / 2


def steps_load(walk):
    """The load of a walk along neighbours: a symbol for each of its steps (point 15)."""
    told = []
    for (a, c), (b, d) in zip(walk, walk[1:]):
        e = b * c - a * d
        assert e in (1, -1)
        told.append((d, e * c, 1))
    return told


def determinant(table):
    table = [[Fraction(number) for number in row] for row in table]
    told = Fraction(1)
    for at in range(len(table)):
        pivot = next((row for row in range(at, len(table)) if table[row][at] != 0), None)
        if pivot is None:
            return 0
        if pivot != at:
            table[at], table[pivot] = table[pivot], table[at]
            told = -told
        told *= table[at][at]
        for row in range(at + 1, len(table)):
            many = table[row][at] / table[at][at]
            table[row] = [one - many * other for one, other in zip(table[row], table[at])]
    return told


def shares_of(rows, row):
    """The one way to take the rows, by fractions, so many times that they make the row; None where there is none."""
    many = len(rows)
    # An equation for each place of the row: the unknown ones' factors, and what they come to.
    equations = [[one[at] for one in rows] + [number] for at, number in enumerate(row)]
    found = reduced(equations, range(many + 1)) if equations else {}
    if many in found or any(at not in found for at in range(many)):
        return None
    return [found[at].get(many, Fraction(0)) for at in range(many)]


def whole(*things):
    return all(type(thing) is int for thing in things)


def fraction_place(thing):
    """A place by the words of point 4, (1, 0) too."""
    if type(thing) is not tuple or len(thing) != 2 or not whole(*thing):
        return False
    return thing == (1, 0) or (thing[1] >= 1 and math.gcd(*thing) == 1)


def symbol_number(n, u, v):
    """The number of a symbol; None where the things tell none."""
    symbols, least = symbol_list(n)
    if not whole(u, v) or (u % n, v % n) not in least:
        return None
    return symbols.index(least[(u % n, v % n)])


def load_counted(n, load):
    """How many times each symbol is in a load; None where the thing is no load."""
    told = collections.Counter()
    if type(load) is not list or len(load) > 200:
        return None
    for each in load:
        if type(each) is not tuple or len(each) != 3 or not whole(*each) or symbol_number(n, *each[:2]) is None:
            return None
        told[symbol_number(n, *each[:2])] += each[2]
    return told


def same_paper_holds(n, one, other, sums):
    half, third = half_list(n), third_list(n)
    counted = [load_counted(n, one), load_counted(n, other)]
    if None in counted or type(sums) is not list:
        return False
    left = {x: Fraction(counted[0][x] - counted[1][x]) for x in range(len(half))}
    for each in sums:
        if type(each) is not tuple or len(each) != 4 or each[0] not in ("half", "third"):
            return False
        x, times = symbol_number(n, *each[1:3]), each[3]
        if x is None or type(times) is not tuple or len(times) != 2 or not whole(*times) or times[1] < 1:
            return False
        if math.gcd(*times) != 1:
            return False
        for symbol in (x, half[x]) if each[0] == "half" else (x, third[x], third[third[x]]):
            left[symbol] -= Fraction(*times)
    return not any(left.values())


def apart_paper_holds(n, one, other, weights):
    counted = [load_counted(n, one), load_counted(n, other)]
    if None in counted or type(weights) is not list or len(weights) != len(half_list(n)) or not whole(*weights):
        return False
    if any(sum(weights[x] for x in relation) != 0 for relation in relations(n)):
        return False
    one_weight, other_weight = [sum(weights[x] * many for x, many in load.items()) for load in counted]
    return one_weight != other_weight


def led_paper_holds(n, one, other, turning):
    if not fraction_place(one) or not fraction_place(other) or type(turning) is not tuple or len(turning) != 2:
        return False
    if any(type(row) is not tuple or len(row) != 2 or not whole(*row) for row in turning):
        return False
    (a, b), (c, d) = turning
    x, y = a * one[0] + b * one[1], c * one[0] + d * one[1]
    # The same place, whatever the signs: the two pairs cross in nought.
    return a * d - b * c == 1 and c % n == 0 and x * other[1] == y * other[0]


def deed_paper_holds(n, m, one, other, roads):
    if not whole(m) or not 1 <= m <= 20 or not fraction_place(one) or not fraction_place(other):
        return False
    if type(roads) is not list or any(type(road) is not tuple or len(road) != 2 for road in roads):
        return False
    if not all(fraction_place(spot) for road in roads for spot in road):
        return False
    told = collections.Counter()
    for d in [d for d in range(1, m + 1) if m % d == 0 and math.gcd(m // d, n) == 1]:
        for b in range(d):
            told[tuple((1, 0) if t == 0 else (Fraction(m // d * s + b * t, d * t).as_integer_ratio())
                       for s, t in (one, other))] += 1
    return told == collections.Counter(roads)


PAPERS = {"same": same_paper_holds, "apart": apart_paper_holds, "led": led_paper_holds, "deed": deed_paper_holds}


def paper_holds(thing):
    """Whether any thing is a paper that holds, by the words of points 28 and 29."""
    if type(thing) is not tuple or len(thing) < 2 or type(thing[0]) is not str or thing[0] not in PAPERS:
        return False
    if len(thing) != (6 if thing[0] == "deed" else 5) or not whole(thing[1]) or not 1 <= thing[1] <= 48:
        return False
    return PAPERS[thing[0]](*thing[1:])
