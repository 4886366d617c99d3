"""Ratios: tuples that tell how often 2, 3, 5 and 7 stand in them."""

PRIMES = (2, 3, 5, 7)
GRAINS = (1200000, 1901955, 2786314, 3368826)


def ratio_of(p, q):
    """The ratio p / q, both products of 2s, 3s, 5s and 7s alone."""
    return tuple([how_often(p, prime) - how_often(q, prime) for prime in PRIMES])


def together(one, other):
    """Two ratios put together."""
    return tuple([ours + theirs for ours, theirs in zip(one, other)])


def turned(one):
    """A ratio turned about."""
    return tuple([-often for often in one])


def power(one, many):
    """A ratio put together with itself so often."""
    return tuple([often * many for often in one])


def size(one):
    """How many grains a ratio has."""
    return sum([often * grains for often, grains in zip(one, GRAINS)])


def fraction(one):
    """A ratio as (p, q), made lesser."""
    p = 1
    q = 1
    for often, prime in zip(one, PRIMES):
        # A prime stands on one side only, so nothing is left to make lesser.
        p *= raised(prime, max(often, 0))
        q *= raised(prime, max(-often, 0))
    return (p, q)


def ratio_text(one):
    """A ratio as P / Q, made lesser."""
    p, q = fraction(one)
    return f"{figures(p)} / {figures(q)}"


def is_product(number):
    """Whether a number is a product of 2s, 3s, 5s and 7s alone."""
    return fraction(ratio_of(number, 1)) == (number, 1)


def how_often(number, prime):
    """How often a prime stands in a number."""
    many = 0
    # 0 could be divided for ever.
    while number > 1 and number % prime == 0:
        number //= prime
        many += 1
    return many


def raised(prime, many):
    """A prime taken so often as a factor."""
    out = 1
    while many > 0:
        if many % 2 == 1:
            out *= prime
        prime *= prime
        many //= 2
    return out


def figures(number):
    """A number from 0 on in figures."""
    # str refuses numbers of more than 4300 figures, and ratios may be greater.
    pieces = []
    while number >= 10 ** 60:
        pieces.append(str(number % 10 ** 60).zfill(60))
        number //= 10 ** 60
    pieces.append(str(number))
    return "".join(pieces[::-1])
