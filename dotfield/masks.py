"""Masks: applying them, and the penalty by which they are compared."""

from dotfield.bits import ones
from dotfield.layout import data_places, version_of

# Each condition repeats after this many rows and after this many columns.
PERIOD = 12

FINDER_LIKE = (
    (1, 0, 1, 1, 1, 0, 1, 0, 0, 0, 0),
    (0, 0, 0, 0, 1, 0, 1, 1, 1, 0, 1),
)


def flips(mask, row, column):
    """Tell whether the condition of the mask holds."""
    product = row * column
    numbers = (
        (row + column) % 2,
        row % 2,
        column % 3,
        (row + column) % 3,
        (row // 2 + column // 3) % 2,
        product % 2 + product % 3,
        (product % 2 + product % 3) % 2,
        ((row + column) % 2 + product % 3) % 2,
    )
    return numbers[mask] == 0


def apply_mask(grid, mask):
    """Return a new grid in which the mask flips the data places."""
    return flipped(grid, data_places(version_of(grid)), mask)


def flipped(grid, places, mask):
    """Return a new grid in which the mask flips those of the places at which its condition holds."""
    pattern = [[1 if flips(mask, i, j) else 0 for j in range(PERIOD)] for i in range(PERIOD)]
    masked = [list(row) for row in grid]
    for row, column in places:
        masked[row][column] = grid[row][column] ^ pattern[row % PERIOD][column % PERIOD]
    return masked


def penalty(grid):
    """Return the penalty of a grid."""
    rows = [dark_and_light(line) for line in grid]
    columns = [dark_and_light(line) for line in zip(*grid)]
    in_lines = sum([line_penalty(dark, light) for dark, light in rows + columns])
    return in_lines + square_penalty(rows) + share_penalty(grid)


def dark_and_light(line):
    """Return the dark and the light modules of a line as the bits of two integers.

    So a few operations look at all places of the line at once.
    """
    dark = int("".join(map(str, line)), 2)
    every = (1 << len(line)) - 1
    return dark, every ^ dark


def line_penalty(dark, light):
    """Return the penalty for the runs and for the patterns like finders in a line."""
    return run_penalty(dark) + run_penalty(light) + finder_penalty(dark, light)


def run_penalty(marked):
    """Return the penalty for the runs of marked modules.

    A run of r modules has r - 4 places at which five modules begin, and r - 5 places at which
    this holds for the next place, too: 3 * (r - 4) - 2 * (r - 5) is r - 2.
    """
    fives = marked & (marked >> 1) & (marked >> 2) & (marked >> 3) & (marked >> 4)
    return 3 * ones(fives) - 2 * ones(fives & (fives >> 1))


def finder_penalty(dark, light):
    """Return the penalty for the places at which eleven modules are like those over a finder."""
    found = 0
    for pattern in FINDER_LIKE:
        places = dark | light
        for i, module in enumerate(pattern):
            marked = dark if module == 1 else light
            places = places & (marked >> i)
        found += ones(places)
    return 40 * found


def square_penalty(rows):
    """Return the penalty for the squares of equal modules; the rows are pairs of dark and light."""
    found = 0
    for (dark, light), (dark_below, light_below) in zip(rows, rows[1:]):
        for marked in (dark & dark_below, light & light_below):
            found += ones(marked & (marked >> 1))
    return 3 * found


def share_penalty(grid):
    """Return the penalty for a share of dark modules that is far from one half."""
    dark = sum([sum(row) for row in grid])
    size = len(grid) * len(grid)
    return 10 * (abs(20 * dark - 10 * size) // size)
