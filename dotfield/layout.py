"""The layout of a symbol: its function patterns, and the places of all other modules."""

from dotfield.tables import alignment

# The modules of a pattern of square rings, from its center outwards.
ALIGNMENT_RINGS = (1, 0, 1)
# The outermost ring is the separator.
FINDER_RINGS = (1, 1, 0, 1, 0)


def side_of(version):
    """Return the number of rows of a grid."""
    return 17 + 4 * version


def version_of(grid):
    """Return the version of a grid."""
    return (len(grid) - 17) // 4


def is_side(side):
    """Tell whether a version has that many rows."""
    return side in range(side_of(1), side_of(40) + 1, 4)


def is_symbol_sized(grid):
    """Tell whether rows form a square of a side that a version has."""
    return is_side(len(grid)) and all([len(row) == len(grid) for row in grid])


def function_modules(version):
    """Return rows that tell for each module whether it belongs to a function pattern."""
    side = side_of(version)
    fixed = pattern_modules(version)
    rows = [[(i, j) in fixed for j in range(side)] for i in range(side)]
    for places in format_places(version) + version_places(version):
        for row, column in places:
            rows[row][column] = True
    return rows


def fixed_modules(version):
    """Return the grid of all function patterns but the format and the version words."""
    side = side_of(version)
    fixed = pattern_modules(version)
    return [[fixed.get((i, j), 0) for j in range(side)] for i in range(side)]


def pattern_modules(version):
    """Return the modules of all function patterns but the words, by their places."""
    side = side_of(version)
    modules = {}
    for i in range(side):
        modules[(6, i)] = 1 - i % 2
        modules[(i, 6)] = 1 - i % 2
    # The finders and their separators end the timing patterns, so they come later.
    for center in finder_centers(side):
        modules.update(ring_modules(center, FINDER_RINGS, side))
    for center in alignment_centers(version):
        modules.update(ring_modules(center, ALIGNMENT_RINGS, side))
    modules[(4 * version + 9, 8)] = 1
    return modules


def finder_centers(side):
    """Return the centers of the finders: at the top left, the top right and the bottom left."""
    return [(3, 3), (3, side - 4), (side - 4, 3)]


def alignment_centers(version):
    """Return the centers of the alignment patterns."""
    places = alignment(version)
    last = 4 * version + 10
    under_finders = [(6, 6), (6, last), (last, 6)]
    centers = [(row, column) for row in places for column in places]
    return [center for center in centers if center not in under_finders]


def ring_modules(center, rings, side):
    """Return the modules of rings around a center, by their places, as far as these lie in the grid."""
    middle_row, middle_column = center
    reach = len(rings) - 1
    return {
        (row, column): rings[max(abs(row - middle_row), abs(column - middle_column))]
        for row in range(max(middle_row - reach, 0), min(middle_row + reach + 1, side))
        for column in range(max(middle_column - reach, 0), min(middle_column + reach + 1, side))
    }


def format_places(version):
    """Return the places of the bits of the format word, in the first and in the second copy."""
    side = side_of(version)
    beside_timing = [(7, 8), (8, 8), (8, 7)]
    first = [(i, 8) for i in range(6)] + beside_timing + [(8, 14 - i) for i in range(9, 15)]
    second = [(8, side - 1 - i) for i in range(8)] + [(side - 15 + i, 8) for i in range(8, 15)]
    return first, second


def version_places(version):
    """Return the places of the bits of the version word, in the first and in the second copy."""
    if version < 7:
        return [], []
    start = side_of(version) - 11
    first = [(i // 3, start + i % 3) for i in range(18)]
    second = [(start + i % 3, i // 3) for i in range(18)]
    return first, second


def data_places(version):
    """Return the places of the modules outside of the function patterns, in their order."""
    side = side_of(version)
    taken = function_modules(version)
    places = []
    rows = list(range(side))
    # Each pair of columns is named by its right one; column 6 is no part of a pair.
    for right in list(range(side - 1, 6, -2)) + [5, 3, 1]:
        rows = rows[::-1]
        places.extend([
            (row, column)
            for row in rows
            for column in (right, right - 1)
            if not taken[row][column]
        ])
    return places
