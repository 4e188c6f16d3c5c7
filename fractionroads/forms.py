"""Small forms, and what they tell of deeds without any roads."""

from fractionroads.deeds import check_deed
from fractionroads.errors import NoForm, NoPart
from fractionroads.levels import symbols_counted
from fractionroads.numbers import common_divisor, divisors, is_whole

LEAST_SIZE = -400


def is_small(form):
    """True or False: whether a form of a size below 0 is small."""
    a, b, c = form
    return abs(b) <= a <= c and (b >= 0 or (b != -a and a != c))


def small_forms(size):
    """All small forms of a size, a sorted list of tuples (a, b, c)."""
    if not is_whole(size) or size >= 0 or size < LEAST_SIZE or size % 4 > 1:
        raise NoForm("a size is a whole number from -400 to -1 that leaves 0 or 1 by 4")
    told = []
    a = 1
    # 4 a c is b b less the size: so b at most a and a at most c make 3 a a at most the size without its sign.
    while 3 * a * a <= -size:
        parts = [(b, b * b - size) for b in range(-a, a + 1)]
        forms = [(a, b, part // (4 * a)) for b, part in parts if part % (4 * a) == 0]
        told += [form for form in forms if is_small(form)]
        a += 1
    return told


def weight(form):
    """The fraction that a small form counts."""
    a, b, c = form
    if b == 0 and a == c:
        return (1, 2)
    if a == b == c:
        return (1, 3)
    return (1, 1)


def stays(level, form, t):
    """How many symbols of a level a form and t lead to themselves."""
    a, b, c = form
    less, more = (t - b) // 2, (t + b) // 2
    led_to = [level.number_of(u * less + v * a, v * more - u * c) for u, v in level.symbols()]
    return len([number for number, other in enumerate(led_to) if number == other])


def square_twelfths(n, m):
    """Twelve times what the symbols tell, which they do where m is a square."""
    if m in [root * root for root in range(1, m + 1)]:
        return symbols_counted(n)
    return 0


def form_twelfths(level, m):
    """Twelve times what the small forms tell."""
    told = 0
    for t in range(-2 * m, 2 * m + 1):
        if t * t < 4 * m:
            for form in small_forms(t * t - 4 * m):
                top, bottom = weight(form)
                told += 6 * top * stays(level, form, t) // bottom
    return told


def end_twelfths(n, m):
    """Twelve times what the divisors of the deed and of the level tell."""
    told = 0
    for d in divisors(m):
        for c in divisors(n):
            g = common_divisor(c, n // c)
            if (m // d - d) % g == 0:
                told += 6 * min(d, m // d) * len([k for k in range(1, g + 1) if common_divisor(k, g) == 1])
    return told


def told_by_forms(level, m):
    """What the forms tell of the deed m: half the trace of its closed table."""
    check_deed(m)
    n = level.number()
    if common_divisor(m, n) != 1:
        raise NoPart("the deed and the level have a common divisor")
    twelfths = square_twelfths(n, m) - form_twelfths(level, m) - end_twelfths(n, m)
    return twelfths // 12 + sum(divisors(m))
