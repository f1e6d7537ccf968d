"""Rows of numbers as sums of powers, and the rules that they follow, without checks.

A sum of powers is, for every count `r`, the sum over some bases of `base ** r` times a sum of
fractions, each times the number of ways to choose as many of `r` things as its place tells.
Fractions are tuples (top, bottom) without a common divisor.
"""

from math import gcd


def fraction(top, bottom):
    """Return a fraction without a common divisor, the bottom at least 1."""
    shared = gcd(top, bottom) if bottom > 0 else -gcd(top, bottom)
    return top // shared, bottom // shared


def less_times(numbers, base):
    """Return the row of each next number less a base times the number itself."""
    return [numbers[at + 1] - base * numbers[at] for at in range(len(numbers) - 1)]


def powers_of(numbers, most):
    """Return the tuples (base, fractions), in order, of the sum of powers that a row of numbers is.

    `most` tells for each base that may take part how many fractions it has at most; there must be as many numbers.
    """
    told = []
    for base in sorted(most):
        fractions = fractions_of(numbers, most, base)
        while fractions and fractions[-1][0] == 0:
            fractions.pop()
        if fractions:
            told.append((base, fractions))
    return told


def fractions_of(numbers, most, base):
    """Return the fractions of a base, as many as there may be."""
    others = [other for other in most if other != base for _ in range(most[other])]
    # This takes the powers of the other bases away, and changes the fractions of this one: they are led back below.
    for other in others:
        numbers = less_times(numbers, other)
    changed = []
    while numbers:
        changed.append(numbers[0])
        numbers = less_times(numbers, base)
    fractions = []
    bottom = 1
    for top in changed:
        fractions.append(fraction(top, bottom))
        bottom *= base
    for other in others:
        fractions = led_back(fractions, base, other)
    return fractions


def led_back(fractions, base, other):
    """Return the fractions of a base of which `less_times` with another base made some."""
    # By it a fraction becomes `base - other` times itself, and `base` times the next one more.
    back = []
    next_top, next_bottom = 0, 1
    for top, bottom in reversed(fractions):
        less = top * next_bottom - base * next_top * bottom
        next_top, next_bottom = fraction(less, bottom * next_bottom * (base - other))
        back.append((next_top, next_bottom))
    return back[::-1]


def rule_of(powers):
    """Return the shortest rule that sums of some powers follow: how often the numbers ahead are in the next one."""
    product = [1]
    for base, fractions in powers:
        for _ in fractions:
            product = [one - base * other for one, other in zip(product + [0], [0] + product)]
    return [-number for number in product[1:]]


def rest_after(first, rule, place, modulus):
    """Return the rest by a modulus of the number at a place of the row that begins with `first` and follows a rule."""
    length = len(rule)
    # The power `x ** place` is worked out, by a rule that has the highest power of `x` be the sum of lower ones.
    powers = [1] + [0] * (length - 1)
    for bit in range(place.bit_length() - 1, -1, -1):
        powers = _reduced(_squared(powers), rule, modulus)
        if place >> bit & 1:
            powers = _reduced([0] + powers, rule, modulus)
    return sum([times * number for times, number in zip(powers, first)]) % modulus


def _squared(powers):
    """Return the product of a sum of powers, told by how often each of them is in it, with itself."""
    told = [0] * (2 * len(powers) - 1)
    for at, one in enumerate(powers):
        for further, other in enumerate(powers):
            told[at + further] += one * other
    return told


def _reduced(powers, rule, modulus):
    """Return a sum of powers with the powers that are too high put together of lower ones, by a modulus."""
    length = len(rule)
    powers = list(powers)
    while len(powers) > length:
        times = powers.pop() % modulus
        for back, number in enumerate(rule):
            powers[len(powers) - 1 - back] += times * number
    return [times % modulus for times in powers]
