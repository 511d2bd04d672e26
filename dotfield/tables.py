"""The numbers of words, blocks and bits of each version and level."""

LEVELS = ("L", "M", "Q", "H")

# For each version from 1 on, and each level in the order of LEVELS: the number of check
# words of each block, and the number of blocks.
BLOCKS = (
    ((7, 1), (10, 1), (13, 1), (17, 1)),
    ((10, 1), (16, 1), (22, 1), (28, 1)),
    ((15, 1), (26, 1), (18, 2), (22, 2)),
    ((20, 1), (18, 2), (26, 2), (16, 4)),
    ((26, 1), (24, 2), (18, 4), (22, 4)),
    ((18, 2), (16, 4), (24, 4), (28, 4)),
    ((20, 2), (18, 4), (18, 6), (26, 5)),
    ((24, 2), (22, 4), (22, 6), (26, 6)),
    ((30, 2), (22, 5), (20, 8), (24, 8)),
    ((18, 4), (26, 5), (24, 8), (28, 8)),
    ((20, 4), (30, 5), (28, 8), (24, 11)),
    ((24, 4), (22, 8), (26, 10), (28, 11)),
    ((26, 4), (22, 9), (24, 12), (22, 16)),
    ((30, 4), (24, 9), (20, 16), (24, 16)),
    ((22, 6), (24, 10), (30, 12), (24, 18)),
    ((24, 6), (28, 10), (24, 17), (30, 16)),
    ((28, 6), (28, 11), (28, 16), (28, 19)),
    ((30, 6), (26, 13), (28, 18), (28, 21)),
    ((28, 7), (26, 14), (26, 21), (26, 25)),
    ((28, 8), (26, 16), (30, 20), (28, 25)),
    ((28, 8), (26, 17), (28, 23), (30, 25)),
    ((28, 9), (28, 17), (30, 23), (24, 34)),
    ((30, 9), (28, 18), (30, 25), (30, 30)),
    ((30, 10), (28, 20), (30, 27), (30, 32)),
    ((26, 12), (28, 21), (30, 29), (30, 35)),
    ((28, 12), (28, 23), (28, 34), (30, 37)),
    ((30, 12), (28, 25), (30, 34), (30, 40)),
    ((30, 13), (28, 26), (30, 35), (30, 42)),
    ((30, 14), (28, 28), (30, 38), (30, 45)),
    ((30, 15), (28, 29), (30, 40), (30, 48)),
    ((30, 16), (28, 31), (30, 43), (30, 51)),
    ((30, 17), (28, 33), (30, 45), (30, 54)),
    ((30, 18), (28, 35), (30, 48), (30, 57)),
    ((30, 19), (28, 37), (30, 51), (30, 60)),
    ((30, 19), (28, 38), (30, 53), (30, 63)),
    ((30, 20), (28, 40), (30, 56), (30, 66)),
    ((30, 21), (28, 43), (30, 59), (30, 70)),
    ((30, 22), (28, 45), (30, 62), (30, 74)),
    ((30, 24), (28, 47), (30, 65), (30, 77)),
    ((30, 25), (28, 49), (30, 68), (30, 81)),
)

# For each mode: the number of bits of the count field in the versions 1 to 9, 10 to 26, 27 to 40.
COUNT_BITS = {
    "numeric": (10, 12, 14),
    "alphanumeric": (9, 11, 13),
    "byte": (8, 16, 16),
}


def count_bits(mode, version):
    """Return the number of bits of the count field."""
    if version < 10:
        return COUNT_BITS[mode][0]
    if version < 27:
        return COUNT_BITS[mode][1]
    return COUNT_BITS[mode][2]


def check_count(version, level):
    """Return the number of check words of each block."""
    return blocks_of(version, level)[0]


def block_count(version, level):
    """Return the number of blocks."""
    return blocks_of(version, level)[1]


def blocks_of(version, level):
    """Return the number of check words of each block, and the number of blocks."""
    return BLOCKS[version - 1][LEVELS.index(level)]


def total_words(version):
    """Return the number of words, check words included."""
    return data_modules(version) // 8


def data_modules(version):
    """Return the number of modules that belong to no function pattern."""
    side = 17 + 4 * version
    finders = 3 * 8 * 8
    timing = 2 * (side - 16)
    format_words_and_dark_module = 2 * 15 + 1
    version_words = 2 * 18 if version >= 7 else 0
    functions = finders + timing + format_words_and_dark_module + version_words
    return side * side - functions - alignment_modules(version)


def alignment_modules(version):
    """Return the number of modules of the alignment patterns beside the timing patterns."""
    places = len(alignment(version))
    if places == 0:
        return 0
    patterns = places * places - 3
    # Those in row 6 and in column 6 lie over the timing patterns with 5 modules each.
    over_timing = 2 * (places - 2)
    return 25 * patterns - 5 * over_timing


def block_sizes(version, level):
    """Return the numbers of data words of the blocks, in order."""
    words = total_words(version)
    blocks = block_count(version, level)
    longer = words % blocks
    size = words // blocks - check_count(version, level)
    return [size] * (blocks - longer) + [size + 1] * longer


def data_words(version, level):
    """Return the number of data words of all blocks."""
    return sum(block_sizes(version, level))


def alignment(version):
    """Return the alignment places, in ascending order."""
    if version == 1:
        return []
    count = version // 7 + 2
    last = 4 * version + 10
    step = 26 if version == 32 else (4 * version + 2 * count + 1) // (2 * count - 2) * 2
    return [6] + [last - step * k for k in range(count - 2, -1, -1)]
