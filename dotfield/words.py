"""Format words and version words."""

from dotfield.bits import ones
from dotfield.errors import InvalidFormat

LEVEL_NUMBERS = {"L": 1, "M": 0, "Q": 3, "H": 2}


def format_word(level, mask):
    """Return the format word of a level and a mask, an integer of 15 bits."""
    product = 1024 * (8 * LEVEL_NUMBERS[level] + mask)
    return (product + remainder(product, 1335)) ^ 21522


def nearest_format(first, second):
    """Return the level and the mask of the format word that is nearest to one of two copies."""
    # The ways over the first copy stand in front, and min takes the first one of equals.
    ways = ways_to_formats(first) + ways_to_formats(second)
    least, level, mask = min(ways, key=lambda way: way[0])
    if least > 3:
        raise InvalidFormat(0)
    return level, mask


def ways_to_formats(word):
    """Return a tuple for each format word: its distance from the word, its level and its mask."""
    return [
        (distance(word, format_word(level, mask)), level, mask)
        for level in LEVEL_NUMBERS
        for mask in range(8)
    ]


def version_word(version):
    """Return the version word of a version from 7 on, an integer of 18 bits."""
    product = 4096 * version
    return product + remainder(product, 7973)


def version_agrees(version, first, second):
    """Tell whether one of two copies is near enough to the version word."""
    word = version_word(version)
    return min(distance(word, first), distance(word, second)) <= 3


def distance(first, second):
    """Return the number of bits in which two integers differ."""
    return ones(first ^ second)


def remainder(a, g):
    """Return the remainder of a by g, as for polynomials whose coefficients are the bits."""
    while a.bit_length() >= g.bit_length():
        a = a ^ (g << (a.bit_length() - g.bit_length()))
    return a
