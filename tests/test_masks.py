"""Promises 08.1 and 08.2, and the interface of dotfield.masks."""

import itertools
import random
import unittest

from dotfield.masks import apply_mask, flips, penalty
from tests.test_layout import plain_data_places, side_of

MASKS = range(8)

# The conditions as they stand in point 08.1.
CONDITIONS = {
    0: lambda i, j: (i + j) % 2 == 0,
    1: lambda i, j: i % 2 == 0,
    2: lambda i, j: j % 3 == 0,
    3: lambda i, j: (i + j) % 3 == 0,
    4: lambda i, j: (i // 2 + j // 3) % 2 == 0,
    5: lambda i, j: i * j % 2 + i * j % 3 == 0,
    6: lambda i, j: (i * j % 2 + i * j % 3) % 2 == 0,
    7: lambda i, j: ((i + j) % 2 + i * j % 3) % 2 == 0,
}

PATTERNS = ([1, 0, 1, 1, 1, 0, 1, 0, 0, 0, 0], [0, 0, 0, 0, 1, 0, 1, 1, 1, 0, 1])


def lines_of(grid):
    return [list(row) for row in grid] + [list(column) for column in zip(*grid)]


def plain_runs(grid):
    total = 0
    for line in lines_of(grid):
        for _, run in itertools.groupby(line):
            length = len(list(run))
            if length >= 5:
                total += length - 2
    return total


def plain_squares(grid):
    total = 0
    for i in range(len(grid) - 1):
        for j in range(len(grid) - 1):
            if len({grid[i][j], grid[i][j + 1], grid[i + 1][j], grid[i + 1][j + 1]}) == 1:
                total += 3
    return total


def plain_patterns(grid):
    total = 0
    for line in lines_of(grid):
        for start in range(len(line) - 10):
            if line[start:start + 11] in PATTERNS:
                total += 40
    return total


def plain_share(grid):
    size = len(grid) ** 2
    dark = sum(map(sum, grid))
    return 10 * (abs(20 * dark - 10 * size) // size)


def plain_penalty(grid):
    return plain_runs(grid) + plain_squares(grid) + plain_patterns(grid) + plain_share(grid)


def chessboard(side):
    """A grid whose penalty is that of its share alone, which is 0 for an even side."""
    return [[(i + j) % 2 for j in range(side)] for i in range(side)]


def some_grid(chance, side, share=0.5):
    return [[int(chance.random() < share) for _ in range(side)] for _ in range(side)]


def transposed(grid):
    return [list(column) for column in zip(*grid)]


def with_line(line, at=0):
    """A chessboard, in which a line stands in the row `at`, from the left."""
    side = len(line) + len(line) % 2
    grid = chessboard(side)
    grid[at][:len(line)] = line
    return grid


class Case(unittest.TestCase):

    def assert_penalty(self, grid, expected=None):
        kept = [list(row) for row in grid]
        found = penalty(grid)
        self.assertIs(type(found), int)
        self.assertEqual(grid, kept)
        self.assertEqual(found, plain_penalty(grid))
        if expected is not None:
            self.assertEqual(found, expected)


class Flips(unittest.TestCase):

    def test_the_example_of_the_interface(self):
        self.assertEqual(
            [flips(mask, 2, 3) for mask in range(8)],
            [False, True, True, False, True, True, True, False])

    def test_each_condition(self):
        for mask in MASKS:
            for i in range(40):
                for j in range(40):
                    self.assertIs(flips(mask, i, j), CONDITIONS[mask](i, j))

    def test_each_condition_at_the_far_end_of_the_largest_grid(self):
        for mask in MASKS:
            for i in range(150, 177):
                for j in itertools.chain(range(5), range(150, 177)):
                    self.assertIs(flips(mask, i, j), CONDITIONS[mask](i, j))
                    self.assertIs(flips(mask, j, i), CONDITIONS[mask](j, i))

    def test_the_first_places_as_pictures(self):
        pictures = (
            ("X X X ", " X X X", "X X X ", " X X X", "X X X ", " X X X"),
            ("XXXXXX", "      ", "XXXXXX", "      ", "XXXXXX", "      "),
            ("X  X  ", "X  X  ", "X  X  ", "X  X  ", "X  X  ", "X  X  "),
            ("X  X  ", "  X  X", " X  X ", "X  X  ", "  X  X", " X  X "),
            ("XXX   ", "XXX   ", "   XXX", "   XXX", "XXX   ", "XXX   "),
            ("XXXXXX", "X     ", "X  X  ", "X X X ", "X  X  ", "X     "),
            ("XXXXXX", "XXX   ", "XX XX ", "X X X ", "X XX X", "X   XX"),
            ("X X X ", "   XXX", "X   XX", " X X X", "XXX   ", " XXX  "),
        )
        for mask in MASKS:
            found = ["".join("X" if flips(mask, i, j) else " " for j in range(6)) for i in range(6)]
            self.assertEqual(tuple(found), pictures[mask])


class ApplyMask(unittest.TestCase):

    def setUp(self):
        self.chance = random.Random(8)

    def test_the_data_places_alone_are_flipped(self):
        for version in (1, 2, 6, 7, 14, 21, 40):
            grid = some_grid(self.chance, side_of(version))
            places = plain_data_places(version)
            for mask in MASKS:
                kept = [list(row) for row in grid]
                found = apply_mask(grid, mask)
                self.assertEqual(grid, kept)
                expected = kept
                for i, j in places:
                    if CONDITIONS[mask](i, j):
                        expected[i][j] = 1 - expected[i][j]
                self.assertEqual(found, expected)
                self.assertTrue(all(type(one) is int for row in found for one in row))

    def test_twice_gives_the_grid_again(self):
        for version in (1, 6, 7, 23):
            grid = some_grid(self.chance, side_of(version))
            for mask in MASKS:
                found = apply_mask(grid, mask)
                self.assertNotEqual(found, grid)
                self.assertEqual(apply_mask(found, mask), grid)

    def test_the_rows_are_new(self):
        grid = some_grid(self.chance, 21)
        kept = [list(row) for row in grid]
        for mask in MASKS:
            found = apply_mask(grid, mask)
            for row in found:
                row[:] = [7] * len(row)
            found.clear()
        self.assertEqual(grid, kept)


class Runs(Case):

    def test_runs_of_each_length_in_a_row_and_in_a_column(self):
        for length in range(1, 20):
            for module in (0, 1):
                grid = chessboard(24)
                for j in range(2, 2 + length):
                    grid[9][j] = module
                longest = max(len(list(run)) for _, run in itertools.groupby(grid[9]))
                self.assertEqual(plain_runs(grid), longest - 2 if longest >= 5 else 0)
                self.assert_penalty(grid)
                self.assert_penalty(transposed(grid))

    def test_runs_of_four_and_of_five_alone(self):
        # In lines of five, all other runs are too short to count, and so are all squares.
        four = [[1, 1, 1, 1, 0], [0, 1, 0, 1, 0], [1, 0, 1, 0, 1], [0, 1, 0, 1, 0], [1, 0, 1, 0, 1]]
        five = [[1, 1, 1, 1, 1], [0, 1, 0, 1, 0], [1, 0, 1, 0, 1], [0, 1, 0, 1, 0], [1, 0, 1, 0, 1]]
        # With 14 and with 15 dark modules of 25, the share has a penalty of 10 and of 20.
        self.assert_penalty(four, 10)
        self.assert_penalty(transposed(four), 10)
        self.assert_penalty(five, 3 + 20)
        self.assert_penalty(transposed(five), 3 + 20)

    def test_at_all_edges(self):
        for length in (4, 5, 6, 7):
            for module in (0, 1):
                for row in (0, 15):
                    for start in (0, 16 - length):
                        grid = chessboard(16)
                        grid[row][start:start + length] = [module] * length
                        self.assert_penalty(grid)
                        self.assert_penalty(transposed(grid))

    def test_a_run_does_not_go_on_in_the_next_line(self):
        # The end of each row and the beginning of the next one are equal, and so in the columns.
        for module in (0, 1):
            grid = chessboard(8)
            grid[2][5:] = grid[3][:3] = [module] * 3
            self.assertEqual(plain_runs(grid), 0)
            self.assert_penalty(grid)
            self.assert_penalty(transposed(grid))
        flat = [[0, 0, 0, 1], [1, 0, 1, 1], [1, 1, 0, 0], [0, 0, 1, 0]]
        self.assertEqual(plain_runs(flat), 0)
        self.assert_penalty(flat)

    def test_several_runs_in_one_line(self):
        for line in ([1] * 5 + [0] * 5 + [1] * 6, [0] * 5 + [1] + [0] * 5 + [1] + [0] * 4,
                     [1] * 7 + [0] + [1] * 8, [0] * 6 + [1] * 4 + [0] * 6):
            for at in (0, 7, 15):
                grid = with_line(line, at)
                self.assert_penalty(grid)
                self.assert_penalty(transposed(grid))


class Squares(Case):

    def test_one_square(self):
        # Two modules are changed, so the share adds nothing.
        for module in (0, 1):
            for i in range(7):
                for j in range(7):
                    grid = chessboard(8)
                    for row, column in itertools.product((i, i + 1), (j, j + 1)):
                        grid[row][column] = module
                    self.assert_penalty(grid, 3)

    def test_overlapping_squares(self):
        for module in (0, 1):
            grid = chessboard(12)
            for row, column in itertools.product((4, 5), (4, 5, 6)):
                grid[row][column] = module
            self.assertEqual(plain_squares(grid), 6)
            self.assert_penalty(grid)
            self.assert_penalty(transposed(grid))
            for column in (4, 5, 6):
                grid[6][column] = module
            self.assertEqual(plain_squares(grid), 12)
            self.assert_penalty(grid)

    def test_no_square_goes_around_an_edge(self):
        grid = chessboard(8)
        for row in (3, 4):
            grid[row][0] = grid[row][7] = 1
        self.assert_penalty(grid, 0)
        self.assert_penalty(transposed(grid), 0)
        grid = chessboard(8)
        for row in (0, 7):
            grid[row][3] = grid[row][4] = 1
        self.assert_penalty(grid, 0)


class Patterns(Case):

    def test_each_pattern_at_each_place(self):
        for pattern in PATTERNS:
            for at in (0, 6, 13):
                for start in range(4):
                    grid = chessboard(14)
                    grid[at][start:start + 11] = pattern
                    self.assertEqual(plain_patterns(grid), 40)
                    self.assert_penalty(grid)
                    self.assert_penalty(transposed(grid))

    def test_each_pattern_with_one_other_module(self):
        for pattern in PATTERNS:
            for wrong in range(11):
                line = list(pattern)
                line[wrong] = 1 - line[wrong]
                grid = chessboard(14)
                grid[5][2:13] = line
                self.assertEqual(plain_patterns(grid), 0)
                self.assert_penalty(grid)
                self.assert_penalty(transposed(grid))

    def test_overlapping_patterns(self):
        # Both patterns over one finder count, and four light modules may end one and begin another.
        first, second = PATTERNS
        both = [0] * 4 + first
        self.assertEqual(both[:11], second)
        for line, many in ((both, 2), (first + second[4:], 2), (first[:7] + both, 3), (second + first[7:], 2),
                           (first + first, 3), (second + second[4:], 1)):
            grid = with_line(line)
            self.assertEqual(plain_patterns(grid), 40 * many)
            self.assert_penalty(grid)
            self.assert_penalty(transposed(grid))
            turned = [row[::-1] for row in grid]
            self.assertEqual(plain_patterns(turned), 40 * many)
            self.assert_penalty(turned)

    def test_a_crossing_in_a_row_and_in_a_column(self):
        grid = chessboard(16)
        grid[3][3:14] = PATTERNS[0]
        for i, module in enumerate(PATTERNS[0]):
            grid[3 + i][3] = module
        self.assertEqual(plain_patterns(grid), 80)
        self.assert_penalty(grid)

    def test_none_over_two_lines(self):
        for pattern in PATTERNS:
            for cut in range(1, 11):
                grid = chessboard(14)
                grid[4][14 - cut:] = pattern[:cut]
                grid[5][:11 - cut] = pattern[cut:]
                self.assertEqual(plain_patterns(grid), 0)
                self.assert_penalty(grid)
                self.assert_penalty(transposed(grid))

    def test_none_in_small_grids(self):
        for side in range(1, 11):
            for pattern in PATTERNS:
                grid = [pattern[:side] for _ in range(side)]
                self.assertEqual(plain_patterns(grid), 0)
                self.assert_penalty(grid)
                grid = [pattern[-side:] for _ in range(side)]
                self.assert_penalty(grid)

    def test_grids_with_eleven_rows(self):
        for pattern in PATTERNS:
            grid = [list(pattern) for _ in range(11)]
            self.assertEqual(plain_patterns(grid), 440)
            self.assert_penalty(grid)
            self.assert_penalty(transposed(grid))


class Share(Case):

    def test_as_many_dark_as_light_modules(self):
        for side in (2, 4, 6, 8, 10):
            self.assert_penalty(chessboard(side), 0)

    def test_both_sides_of_each_step(self):
        # In a grid of 10 rows a step of 5 in a hundred is a step of 5 modules. Other parts may count, too.
        chance = random.Random(9)
        for dark in range(101):
            modules = [1] * dark + [0] * (100 - dark)
            chance.shuffle(modules)
            grid = [modules[start:start + 10] for start in range(0, 100, 10)]
            self.assertEqual(plain_share(grid), 10 * (abs(dark - 50) // 5))
            self.assert_penalty(grid)

    def test_the_share_alone(self):
        self.assert_penalty([[1, 0], [0, 0]], 50)
        self.assert_penalty([[1, 1], [1, 0]], 50)
        self.assert_penalty([[1, 0, 1], [0, 1, 0], [1, 0, 1]], 10)
        self.assert_penalty([[0, 1, 0], [1, 0, 1], [0, 1, 0]], 10)


class Penalty(Case):

    def test_the_example_of_the_interface(self):
        self.assertEqual(penalty([[1, 1], [1, 0]]), 50)

    def test_one_row(self):
        self.assert_penalty([[0]], 100)
        self.assert_penalty([[1]], 100)

    def test_all_dark_and_all_light(self):
        for side in range(1, 26):
            for module in (0, 1):
                grid = [[module] * side for _ in range(side)]
                runs = 2 * side * (side - 2) if side >= 5 else 0
                self.assert_penalty(grid, runs + 3 * (side - 1) ** 2 + 100)

    def test_all_small_grids(self):
        for side in (1, 2, 3):
            for modules in itertools.product((0, 1), repeat=side * side):
                grid = [list(modules[start:start + side]) for start in range(0, side * side, side)]
                self.assert_penalty(grid)

    def test_any_grids(self):
        chance = random.Random(10)
        for _ in range(150):
            side = chance.randrange(1, 40)
            self.assert_penalty(some_grid(chance, side, chance.choice((0.1, 0.3, 0.5, 0.7, 0.9))))

    def test_grids_of_long_runs_and_patterns(self):
        chance = random.Random(11)
        for _ in range(100):
            side = chance.randrange(11, 50)
            grid = []
            while len(grid) < side:
                row = []
                while len(row) < side:
                    row += chance.choice(([0] * 5, [1] * 5, [0] * 4, [1], [0], *PATTERNS, [1, 0, 1, 1, 1, 0, 1]))
                grid += [row[:side]] * chance.choice((1, 1, 2, 6))
            grid = [list(row) for row in grid[:side]]
            self.assert_penalty(grid)
            self.assert_penalty(transposed(grid))

    def test_sizes_of_symbols(self):
        chance = random.Random(12)
        for side in (21, 45, 177):
            self.assert_penalty(some_grid(chance, side))

    def test_each_part_is_added(self):
        grid = chessboard(20)
        grid[0][:11] = PATTERNS[0]
        grid[5][:6] = [1] * 6
        grid[12][4] = grid[13][4] = 1
        grid[12][5] = grid[13][5] = 1
        grid[17:] = [[1] * 20 for _ in range(3)]
        parts = [part(grid) for part in (plain_runs, plain_squares, plain_patterns, plain_share)]
        self.assertTrue(all(parts), parts)
        self.assert_penalty(grid, sum(parts))


if __name__ == "__main__":
    unittest.main()
