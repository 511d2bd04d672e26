"""Plain ways from segments to a grid, by the words of the document and without the package."""

import functools

from tests.test_layout import (
    plain_data_places, plain_fixed, plain_format_places, plain_version_places, side_of)
from tests.test_masks import CONDITIONS
from tests.test_reed import plain_check_words
from tests.test_segments import best_by_trying, field, plain_bits
from tests.test_tables import data_module_count, table_rows
from tests.test_words import plain_format_word, plain_version_word

LEVELS = "LMQH"
MASKS = range(8)
VERSIONS = range(1, 41)
TABLE = table_rows()

total_words = functools.cache(lambda version: data_module_count(version) // 8)
places_of = functools.cache(plain_data_places)


def check_count(version, level):
    return TABLE[version][level][0]


def block_lengths(version, level):
    """The numbers of words of the blocks, check words included (point 05.3)."""
    t, b = total_words(version), TABLE[version][level][1]
    return [t // b] * (b - t % b) + [t // b + 1] * (t % b)


def data_sizes(version, level):
    return [length - check_count(version, level) for length in block_lengths(version, level)]


def room(version, level):
    """The number of data bits."""
    return 8 * sum(data_sizes(version, level))


def header_field(header):
    if header is None:
        return []
    index, count, parity = header
    return [0, 0, 1, 1] + field(4, index) + field(4, count - 1) + field(8, parity)


def version_of(text, level, least, most, header=None, choose=best_by_trying):
    """The version of point 09.1, or None. The best segments are chosen by the function."""
    for version in range(least, most + 1):
        if len(text) < 256 or (version >= 10 and len(text) < 2048):
            bits = header_field(header) + plain_bits(choose(text, version), version)
            if len(bits) <= room(version, level):
                return version
    return None


def data_list(segments, version, level, header=None):
    size = room(version, level)
    bits = header_field(header) + plain_bits(segments, version)
    bits = (bits + [0] * 4)[:size] if len(bits) <= size else bits
    while len(bits) % 8:
        bits.append(0)
    words = [int("".join(map(str, bits[start:start + 8])), 2) for start in range(0, len(bits), 8)]
    filling = 236
    while len(words) < size // 8:
        words.append(filling)
        filling = 236 + 17 - filling
    return words


def blocks_of(data, version, level):
    """The data words and the check words of each block."""
    rest = list(data)
    blocks = []
    for size in data_sizes(version, level):
        part, rest = rest[:size], rest[size:]
        blocks.append((part, plain_check_words(part, check_count(version, level))))
    return blocks


def in_turn(lists):
    found = []
    for i in range(max(map(len, lists))):
        for one in lists:
            if i < len(one):
                found.append(one[i])
    return found


def word_list(data, version, level):
    blocks = blocks_of(data, version, level)
    return in_turn([part for part, _ in blocks]) + in_turn([checks for _, checks in blocks])


def draw(words, version, level, mask):
    n = side_of(version)
    modules = {(i, j): 0 for i in range(n) for j in range(n)}
    modules.update(plain_fixed(version))
    bits = [bit for word in words for bit in field(8, word)]
    places = places_of(version)
    bits += [0] * (len(places) - len(bits))
    for place, bit in zip(places, bits, strict=True):
        modules[place] = bit ^ CONDITIONS[mask](*place)
    for copy in plain_format_places(version):
        for i, place in enumerate(copy):
            modules[place] = plain_format_word(level, mask) >> i & 1
    if version >= 7:
        for copy in plain_version_places(version):
            for i, place in enumerate(copy):
                modules[place] = plain_version_word(version) >> i & 1
    return [[modules[i, j] for j in range(n)] for i in range(n)]


def grid_of(segments, version, level, mask, header=None):
    return draw(word_list(data_list(segments, version, level, header), version, level), version, level, mask)
