"""Symbols: from a text to a grid."""

from dotfield.bits import BitWriter, bits_of_words
from dotfield.errors import TooLong
from dotfield.header import header_bits, write_header
from dotfield.layout import data_places, fixed_modules, format_places, version_places
from dotfield.masks import flipped, penalty
from dotfield.reed import check_words
from dotfield.segments import best_segments, segment_bits, write_segments
from dotfield.tables import block_sizes, check_count, data_words
from dotfield.words import format_word, version_word

FILLING_WORDS = (236, 17)

# The first and the last version of each group in which the count fields have equal lengths.
VERSION_GROUPS = ((1, 9), (10, 26), (27, 40))


class Symbol:
    """A symbol: the choices that were made for a text, and the grid."""

    def __init__(self, version, level, mask, header, segments, grid):
        self.version = version
        self.level = level
        self.mask = mask
        self.header = header
        self.segments = segments
        self.grid = grid

    def __eq__(self, other):
        return (
            isinstance(other, Symbol)
            and self.version == other.version
            and self.level == other.level
            and self.mask == other.mask
            and self.header == other.header
            and self.segments == other.segments
            and self.grid == other.grid
        )


def data_list(segments, version, level, header=None):
    """Return the data words of a header and segments."""
    writer = BitWriter()
    write_header(writer, header)
    write_segments(writer, segments, version)
    size = data_words(version, level)
    writer.write(min(4, 8 * size - writer.bits_written()), 0)
    words = writer.byte_list()
    return words + [FILLING_WORDS[i % 2] for i in range(size - len(words))]


def word_list(data, version, level):
    """Return the words of the symbol of the data words."""
    count = check_count(version, level)
    blocks = []
    start = 0
    for size in block_sizes(version, level):
        blocks.append(data[start:start + size])
        start += size
    return in_turn(blocks) + in_turn([check_words(block, count) for block in blocks])


def in_turn(blocks):
    """Return the first word of each block, then the second word of each, and so on."""
    longest = max([len(block) for block in blocks])
    return [block[i] for i in range(longest) for block in blocks if i < len(block)]


def draw(words, version, level, mask):
    """Return the grid of the words."""
    places = data_places(version)
    return finished(unmasked(words, places, version), places, level, mask, version)


def unmasked(words, places, version):
    """Return the grid that has the words on the data places, without format and version words."""
    grid = fixed_modules(version)
    for (row, column), bit in zip(places, bits_of_words(words)):
        grid[row][column] = bit
    return grid


def finished(grid, places, level, mask, version):
    """Return the grid with the mask, and with both copies of the format and the version word."""
    masked = flipped(grid, places, mask)
    modules = word_modules(format_word(level, mask), format_places(version))
    modules.update(word_modules(version_word(version), version_places(version)))
    for (row, column), module in modules.items():
        masked[row][column] = module
    return masked


def word_modules(word, copies):
    """Return the modules of the copies of a word, by their places."""
    return {place: (word >> i) & 1 for places in copies for i, place in enumerate(places)}


def draw_best(words, version, level):
    """Return the mask with the least penalty, and the grid with that mask."""
    places = data_places(version)
    grid = unmasked(words, places, version)
    grids = [finished(grid, places, level, mask, version) for mask in range(8)]
    penalties = [penalty(one) for one in grids]
    best = penalties.index(min(penalties))
    return best, grids[best]


def encode(text, *, level="M", least=1, most=40, mask=None, header=None):
    """Return the Symbol of a text, in its best segments."""
    for versions in version_groups(least, most):
        if is_allowed(len(text), versions[0]):
            segments = best_segments(text, versions[0])
            version = version_with_room(segments, versions, level, header)
            if version is not None:
                return symbol_of(segments, version, level, mask, header)
    raise TooLong(0)


def encode_segments(segments, *, level="M", least=1, most=40, mask=None, header=None):
    """Return the Symbol of the given segments."""
    copied = [(mode, list(content)) for mode, content in segments]
    versions = [one for group in version_groups(least, most) for one in group]
    version = version_with_room(copied, versions, level, header)
    if version is None:
        raise TooLong(0)
    return symbol_of(copied, version, level, mask, header)


def version_groups(least, most):
    """Return lists of versions; within each one, a text has the same best segments."""
    groups = [
        list(range(max(least, first), min(most, last) + 1))
        for first, last in VERSION_GROUPS
    ]
    return [versions for versions in groups if versions]


def is_allowed(length, version):
    """Tell whether a text of that length has best segments in the version."""
    return length < 256 or (version >= 10 and length < 2048)


def version_with_room(segments, versions, level, header):
    """Return the first version that has room for the header and the segments, or None."""
    for version in versions:
        bits = header_bits(header) + sum([segment_bits(segment, version) for segment in segments])
        if bits <= 8 * data_words(version, level):
            return version
    return None


def symbol_of(segments, version, level, mask, header):
    """Return the Symbol in that version; the best mask is looked for if there is none."""
    words = word_list(data_list(segments, version, level, header), version, level)
    if mask is None:
        best, grid = draw_best(words, version, level)
        return Symbol(version, level, best, header, segments, grid)
    return Symbol(version, level, mask, header, segments, draw(words, version, level, mask))
