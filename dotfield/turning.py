"""Turns: which way up a grid is to be read."""

from dotfield.errors import AmbiguousTurn, NotASymbol
from dotfield.layout import FINDER_RINGS, finder_centers, is_symbol_sized, ring_modules
from dotfield.reading import read


def turned(grid, quarters):
    """Return the grid after that many quarters clockwise."""
    rows = [list(row) for row in grid]
    for _ in range(quarters):
        rows = mirrored(rows[::-1])
    return rows


def mirrored(grid):
    """Return the grid with its rows and columns exchanged."""
    return [list(column) for column in zip(*grid)]


def turn_count(grid):
    """Return how many modules at the three corners of finders differ from them."""
    side = len(grid)
    return sum([corner_count(grid, center) for center in finder_centers(side)])


def corner_count(grid, center):
    """Return how many modules differ from a finder with that center and from its separator."""
    finder = ring_modules(center, FINDER_RINGS, len(grid))
    return len([1 for (row, column), module in finder.items() if grid[row][column] != module])


def find_turn(grid):
    """Return the number of quarters after which the grid is upright."""
    if not is_grid(grid):
        raise NotASymbol(0)
    counts = [turn_count(turned(grid, quarters)) for quarters in range(4)]
    least = min(counts)
    if counts.count(least) > 1:
        raise AmbiguousTurn(0)
    return counts.index(least)


def is_grid(grid):
    """Tell whether the rows are a grid of a version."""
    return is_symbol_sized(grid) and all([module in (0, 1) for row in grid for module in row])


def read_turned(grid):
    """Return the Reading of a grid that may be turned."""
    return read(turned(grid, find_turn(grid)))
