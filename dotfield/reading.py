"""Reading: from a grid to a text."""

from dotfield.bits import bits_of_words, value_of
from dotfield.errors import InvalidVersion, NotASymbol, TooDamaged
from dotfield.header import header_bits, read_header
from dotfield.layout import data_places, format_places, is_symbol_sized, version_of, version_places
from dotfield.masks import flipped
from dotfield.reed import correct
from dotfield.segments import read_segments
from dotfield.tables import block_sizes, check_count, total_words
from dotfield.words import nearest_format, version_agrees


class Reading:
    """What was read in a grid, and how many words of each block had to be corrected."""

    def __init__(self, version, level, mask, header, segments, text, changed):
        self.version = version
        self.level = level
        self.mask = mask
        self.header = header
        self.segments = segments
        self.text = text
        self.changed = changed

    def __eq__(self, other):
        return (
            isinstance(other, Reading)
            and self.version == other.version
            and self.level == other.level
            and self.mask == other.mask
            and self.header == other.header
            and self.segments == other.segments
            and self.text == other.text
            and self.changed == other.changed
        )


def read(grid):
    """Return the Reading of a grid that lies upright."""
    version = read_version(grid)
    level, mask = read_format(grid, version)
    blocks = distribute(read_words(grid, version, mask), version, level)
    corrected = correct_blocks(blocks, check_count(version, level))
    bits = data_bits([words for words, _ in corrected], block_sizes(version, level))
    header = read_header(bits)
    segments = read_segments(bits, version, header_bits(header))
    text = [byte for _, content in segments for byte in content]
    changed = [distance for _, distance in corrected]
    return Reading(version, level, mask, header, segments, text, changed)


def read_version(grid):
    """Return the version that the size of the grid tells and its version words agree with."""
    if not is_symbol_sized(grid):
        raise NotASymbol(0)
    version = version_of(grid)
    if version >= 7:
        first, second = read_copies(grid, version_places(version))
        if not version_agrees(version, first, second):
            raise InvalidVersion(0)
    return version


def read_format(grid, version):
    """Return the level and the mask."""
    first, second = read_copies(grid, format_places(version))
    return nearest_format(first, second)


def read_copies(grid, copies):
    """Return both copies of a word."""
    first, second = copies
    return read_word(grid, first), read_word(grid, second)


def read_word(grid, places):
    """Return the integer whose bits are the modules at the places, from bit 0 on."""
    return sum([grid[row][column] << i for i, (row, column) in enumerate(places)])


def read_words(grid, version, mask):
    """Return the words of a grid of that version."""
    places = data_places(version)
    unmasked = flipped(grid, places, mask)
    bits = [unmasked[row][column] for row, column in places]
    return [value_of(bits[8 * i:8 * i + 8]) for i in range(total_words(version))]


def distribute(words, version, level):
    """Return the blocks: each one its data words, followed by its check words."""
    blocks = [[] for _ in block_sizes(version, level)]
    for word, block in zip(words, turns(version, level)):
        blocks[block].append(word)
    return blocks


def turns(version, level):
    """Return for each word of a symbol, in order, the index of the block that it belongs to."""
    sizes = block_sizes(version, level)
    data = [block for i in range(max(sizes)) for block, size in enumerate(sizes) if i < size]
    return data + list(range(len(sizes))) * check_count(version, level)


def correct_blocks(blocks, count):
    """Return for each block its codeword, and the distance from it."""
    return [correct_block(block, index, count) for index, block in enumerate(blocks)]


def correct_block(block, index, count):
    """Return the codeword of the block of that index, and the distance from it."""
    try:
        return correct(block, count)
    except TooDamaged:
        raise TooDamaged(index) from None


def data_bits(blocks, sizes):
    """Return the data bits of corrected blocks with those numbers of data words."""
    data = [word for block, size in zip(blocks, sizes) for word in block[:size]]
    return bits_of_words(data)
