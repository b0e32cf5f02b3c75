"""What holds for rank 2 only: the primitive rings with given exponents, and signs."""

from math import gcd

from ringleast.checks import check_substitution, is_integer_value
from ringleast.errors import BadPair
from ringleast.images import image_table, image_text
from ringleast.limits import MAX_LENGTH
from ringleast.rings import ring_from


def is_pair(thing):
    """Tells whether `thing` is a pair."""
    if not isinstance(thing, tuple) or len(thing) != 2 or not all([is_integer_value(number) for number in thing]):
        return False
    p, q = thing
    return 1 <= abs(p) + abs(q) <= MAX_LENGTH and gcd(p, q) == 1


def pair_ring(pair):
    """Returns the primitive ring with these exponents."""
    if not is_pair(pair):
        raise BadPair(f"a pair has two integers without a common divisor, from 1 to {MAX_LENGTH} in total")
    p = abs(pair[0])
    n = p + abs(pair[1])
    first = "a" if pair[0] > 0 else "A"
    second = "b" if pair[1] > 0 else "B"
    return ring_from("".join([first if (i + 1) * p // n > i * p // n else second for i in range(n)]))


def sign(substitution):
    """Returns the sign of a substitution of rank 2: 1 or -1 for an automorphism, otherwise 0."""
    check_substitution(2, substitution)
    product = image_text(image_table(substitution), "abAB")
    if product == "":
        return 0
    ring = ring_from(product)
    if ring == ring_from("abAB"):
        return 1
    return -1 if ring == ring_from("baBA") else 0
