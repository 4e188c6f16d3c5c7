"""Levels, their turnings and their symbols."""

from fractionroads.errors import NoLevel, NoSymbol
from fractionroads.numbers import common_divisor, is_whole, primes_in
from fractionroads.turnings import turning_over

LAST_LEVEL = 48


def is_level(thing):
    """True or False, of any thing: whether it is the number of a level."""
    return is_whole(thing) and 1 <= thing <= LAST_LEVEL


def level_number(thing):
    """The thing itself where it is the number of a level; any other thing is refused."""
    if not is_level(thing):
        raise NoLevel("a level is a whole number from 1 to 48")
    return thing


def symbols_counted(n):
    """How many symbols the level n has, told by its primes alone."""
    many = level_number(n)
    for prime in primes_in(n):
        many += many // prime
    return many


def symbols_numbered(n):
    """All symbols of the level n in order, and for each pair of rests that tells one its number."""
    factors = [k for k in range(1, n + 1) if common_divisor(k, n) == 1]
    symbols = []
    numbers = {}
    for u in range(n):
        for v in range(n):
            # Pairs come in order: one that no earlier symbol is told by is the least of its own.
            if (u, v) not in numbers and common_divisor(common_divisor(u, v), n) == 1:
                for k in factors:
                    numbers[(k * u % n, k * v % n)] = len(symbols)
                symbols.append((u, v))
    return (symbols, numbers)


class Level:
    """A level n: what its turnings and symbols are."""

    def __init__(self, n):
        self.modulus = level_number(n)
        self.all_symbols, self.pair_numbers = symbols_numbered(self.modulus)

    def number(self):
        """The level's n."""
        return self.modulus

    def has(self, turning):
        """True or False: whether a turning is one of the level's."""
        return turning[1][0] % self.modulus == 0

    def symbols(self):
        """All symbols, a sorted list of tuples."""
        return list(self.all_symbols)

    def symbol(self, u, v):
        """The symbol that a pair tells."""
        return self.all_symbols[self.number_of(u, v)]

    def tells(self, u, v):
        """True or False: whether a pair of whole numbers tells a symbol."""
        return (u % self.modulus, v % self.modulus) in self.pair_numbers

    def number_of(self, u, v):
        """The number of the symbol that a pair tells."""
        if not self.tells(u, v):
            raise NoSymbol("the pair has a common divisor with the level")
        return self.pair_numbers[(u % self.modulus, v % self.modulus)]

    def turning_of(self, k):
        """A turning that has the symbol of this number."""
        c, d = self.all_symbols[k]
        # Other numbers of the same rest tell the same symbol, and one of them has no common divisor with c.
        while common_divisor(c, d) != 1:
            d += self.modulus
        return turning_over(c, d)
