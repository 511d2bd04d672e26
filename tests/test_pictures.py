"""Promises 11.4 to 11.6, and the interface of dotfield.pictures."""

import random
import unittest

from dotfield.errors import NotAPicture
from dotfield.pictures import paint, scan
from dotfield.symbol import encode
from tests.test_layout import FINDER, rows_of

FINDER_ROWS = rows_of(FINDER)


def copy_of(rows):
    return [list(row) for row in rows]


def plain_picture(grid, scale, quiet, dark, light):
    """Each entry is looked up in the grid."""
    side = (len(grid) + 2 * quiet) * scale
    picture = []
    for y in range(side):
        row = []
        for x in range(side):
            i, j = y // scale - quiet, x // scale - quiet
            inside = 0 <= i < len(grid) and 0 <= j < len(grid)
            row.append(dark if inside and grid[i][j] == 1 else light)
        picture.append(row)
    return picture


def some_grid(chance, side):
    return [[chance.randrange(2) for _ in range(side)] for _ in range(side)]


def grid_with_finders(chance, side):
    """Any modules, but intact finders."""
    grid = some_grid(chance, side)
    for top, left in ((0, 0), (0, side - 7), (side - 7, 0)):
        for i, row in enumerate(FINDER_ROWS):
            grid[top + i][left:left + 7] = row
    # The separators, so that no run goes on.
    for i in range(8):
        for row, column in ((7, i), (i, 7), (7, side - 1 - i), (i, side - 8), (side - 8, i), (side - 1 - i, 7)):
            grid[row][column] = 0
    return grid


def framed(rows, by, light=255):
    """The rows with so many light entries on each side."""
    width = len(rows[0]) + 2 * by
    above = [[light] * width for _ in range(by)]
    return above + [[light] * by + list(row) + [light] * by for row in rows] + copy_of(above)


def square(side, run, dark=0, light=255):
    """A frame of that side, whose first row begins with a run of marked entries; its edges are marked."""
    rows = [[light] * side for _ in range(side)]
    rows[0][:run] = [dark] * run
    for i in range(side):
        rows[i][0] = rows[side - 1][i] = rows[i][side - 1] = dark
    if run < side:
        rows[0][run] = light
    return rows


class Case(unittest.TestCase):

    def assert_grid(self, picture, grid):
        kept = copy_of(picture)
        found = scan(picture)
        self.assertEqual(picture, kept)
        self.assertIs(type(found), list)
        self.assertTrue(all(type(row) is list for row in found))
        self.assertTrue(all(type(one) is int for row in found for one in row))
        self.assertEqual(found, grid)
        self.assertEqual(len({id(row) for row in found}), len(found))

    def assert_not_a_picture(self, picture):
        kept = copy_of(picture)
        with self.assertRaises(NotAPicture) as found:
            scan(picture)
        self.assertIs(type(found.exception), NotAPicture)
        self.assertEqual([found.exception.place, found.exception.name], [0, "NotAPicture"])
        self.assertEqual(picture, kept)


class Paint(Case):

    def assert_painted(self, grid, scale, quiet, dark, light):
        kept = copy_of(grid)
        found = paint(grid, scale=scale, quiet=quiet, dark=dark, light=light)
        self.assertEqual(grid, kept)
        self.assertIs(type(found), list)
        self.assertTrue(all(type(row) is list for row in found))
        self.assertEqual(found, plain_picture(grid, scale, quiet, dark, light))
        self.assertEqual(len({id(row) for row in found}), len(found))

    def test_the_example_of_the_interface(self):
        expected = [
            [7, 7, 7, 7, 7, 7], [7, 7, 7, 7, 7, 7], [7, 7, 9, 9, 7, 7],
            [7, 7, 9, 9, 7, 7], [7, 7, 7, 7, 7, 7], [7, 7, 7, 7, 7, 7]]
        self.assertEqual(paint([[1]], scale=2, quiet=1, dark=9, light=7), expected)

    def test_what_is_taken_if_nothing_is_said(self):
        grid = encode([1, 2]).grid
        self.assertEqual(paint(grid), plain_picture(grid, 4, 4, 0, 255))
        self.assertEqual(paint([[1]], scale=1), plain_picture([[1]], 1, 4, 0, 255))
        self.assertEqual(paint([[1]], quiet=0), [[0] * 4] * 4)
        self.assertEqual(paint([[1, 0], [0, 1]], scale=1, quiet=0, dark=3), [[3, 255], [255, 3]])
        self.assertEqual(paint([[1, 0], [0, 1]], scale=1, quiet=0, light=3), [[0, 3], [3, 0]])

    def test_each_scale_and_quiet_zone(self):
        chance = random.Random(61)
        for scale in range(1, 21):
            for quiet in (0, 1, 4, 20):
                self.assert_painted(some_grid(chance, 3), scale, quiet, 10, 200)
        for quiet in range(21):
            for scale in (1, 2, 20):
                self.assert_painted(some_grid(chance, 2), scale, quiet, 0, 255)

    def test_grays(self):
        grid = [[1, 0], [1, 1]]
        for dark, light in ((0, 255), (255, 0), (9, 7), (7, 9), (0, 1), (1, 0), (254, 255), (200, 100)):
            self.assert_painted(grid, 2, 1, dark, light)

    def test_symbols(self):
        for version in (1, 7):
            self.assert_painted(encode([1], least=version, mask=0).grid, 3, 4, 0, 255)

    def test_only_the_grid_is_passed_by_its_place(self):
        with self.assertRaises(TypeError):
            paint([[1]], 2)

    def test_the_rows_are_new(self):
        grid = [[1, 0], [0, 1]]
        for scale, quiet in ((1, 0), (2, 0), (1, 2), (3, 3)):
            found = paint(grid, scale=scale, quiet=quiet)
            for row in found:
                row[:] = [77] * len(row)
            self.assertEqual(grid, [[1, 0], [0, 1]])
            self.assertEqual(len({id(row) for row in found}), len(found))
            self.assertEqual(paint(grid, scale=scale, quiet=quiet), plain_picture(grid, scale, quiet, 0, 255))


class Scan(Case):

    def test_painted_grids(self):
        chance = random.Random(62)
        for scale in (1, 2, 3, 4, 7, 8, 20):
            for quiet in (0, 1, 4, 20):
                for side in (21, 25):
                    grid = grid_with_finders(chance, side)
                    self.assert_grid(paint(grid, scale=scale, quiet=quiet), grid)

    def test_each_version(self):
        chance = random.Random(63)
        for version in range(1, 41):
            grid = grid_with_finders(chance, 17 + 4 * version)
            self.assert_grid(paint(grid, scale=chance.choice((1, 2)), quiet=2), grid)

    def test_symbols(self):
        for version in (1, 6, 7, 12):
            grid = encode(list(b"a picture"), least=version).grid
            self.assert_grid(paint(grid), grid)
            self.assert_grid(paint(grid, scale=5, quiet=0, dark=100, light=101), grid)

    def test_grays(self):
        grid = encode([1], mask=0).grid
        for dark, light in ((0, 255), (0, 1), (254, 255), (100, 200), (0, 2), (127, 129)):
            self.assert_grid(paint(grid, scale=2, quiet=1, dark=dark, light=light), grid)

    def test_entries_that_are_nearer_to_one_gray(self):
        chance = random.Random(64)
        grid = encode([1], mask=0).grid
        picture = paint(grid, scale=3, quiet=2, dark=0, light=255)
        noisy = [[chance.randrange(0, 128) if gray == 0 else chance.randrange(128, 256) for gray in row] for row in picture]
        noisy[0][0], noisy[7][7] = 255, 0
        self.assertEqual([min(map(min, noisy)), max(map(max, noisy))], [0, 255])
        self.assert_grid(noisy, grid)

    def test_an_entry_in_the_middle_is_not_marked(self):
        # The least gray is 10, the greatest 210, so 110 is the mean: 109 is marked, 110 is not.
        grid = encode([1], mask=0).grid
        for dark, light in ((109, 110), (10, 110), (109, 210), (11, 209)):
            picture = paint(grid, scale=3, quiet=1, dark=dark, light=light)
            picture[4][4] = 10
            picture[0][0] = 210
            self.assert_grid(picture, grid)

    def test_the_middle_of_each_module_counts(self):
        # With a scale of 2 this is the lower right one of four entries, with 3 the one in the middle.
        for scale, middle in ((2, 1), (3, 1), (4, 2), (5, 2), (20, 10)):
            grid = encode([1], mask=0).grid
            picture = paint(grid, scale=scale, quiet=1)
            for i in range(21):
                for j in range(21):
                    for di in range(scale):
                        for dj in range(scale):
                            edge = i in (0, 20) or j in (0, 20)
                            if not edge and (di, dj) != (middle, middle):
                                picture[(i + 1) * scale + di][(j + 1) * scale + dj] = 255 * grid[i][j]
            self.assert_grid(picture, grid)

    def test_light_entries_beside_the_frame(self):
        grid = encode([1], mask=0).grid
        picture = paint(grid, scale=2, quiet=0)
        for above, below, left, right in ((0, 0, 3, 0), (5, 0, 0, 0), (0, 7, 0, 0), (0, 0, 0, 9), (1, 2, 3, 4)):
            width = left + len(picture) + right
            rows = [[255] * width for _ in range(above)]
            rows += [[200] * left + row + [210] * right for row in picture]
            rows += [[255] * width for _ in range(below)]
            self.assert_grid(rows, grid)

    def test_intact_finders_are_not_looked_for(self):
        # The frame and its first run are enough.
        grid = [[1] * 7 + [0] * 14] + [[0] * 20 + [1] for _ in range(19)] + [[1] * 21]
        for scale in (1, 2, 5):
            self.assert_grid(paint(grid, scale=scale), grid)

    def test_a_first_run_over_the_whole_frame(self):
        # The frame is then 7 modules wide, whatever its size.
        for side in (7, 14, 21, 28, 147):
            self.assert_not_a_picture(framed([[0] * side for _ in range(side)], 2))
            self.assert_not_a_picture([[0] * side] + [[0] + [255] * (side - 1) for _ in range(side - 1)])

    def test_the_rows_are_new(self):
        grid = encode([1], mask=0).grid
        picture = paint(grid, scale=1, quiet=0)
        found = scan(picture)
        for row in found:
            row.clear()
        self.assert_grid(picture, grid)


class NoPicture(Case):

    def test_no_rows(self):
        self.assert_not_a_picture([])

    def test_no_columns(self):
        for many in (1, 2, 21):
            self.assert_not_a_picture([[] for _ in range(many)])

    def test_rows_of_unequal_length(self):
        picture = paint(encode([1], mask=0).grid, scale=1, quiet=1)
        for row in (0, 10, 22):
            for length in (0, 1, 22, 24):
                wrong = copy_of(picture)
                wrong[row] = [255] * length
                self.assert_not_a_picture(wrong)
        self.assert_not_a_picture([[], [0]])
        self.assert_not_a_picture([[0], []])
        self.assert_not_a_picture([[0, 255], [0]])

    def test_one_gray_alone(self):
        for gray in (0, 1, 127, 128, 255):
            for side in (1, 7, 21):
                self.assert_not_a_picture([[gray] * side for _ in range(side)])

    def test_a_first_run_of_0(self):
        # The frame begins at the column of another row.
        rows = square(21, 7)
        rows[0][0] = 255
        self.assert_not_a_picture(rows)
        self.assert_not_a_picture(framed(rows, 3))
        grid = encode([1], mask=0).grid
        grid[0][0] = 0
        self.assert_not_a_picture(paint(grid))

    def test_a_first_run_that_is_no_multiple_of_7(self):
        for run in (1, 2, 3, 4, 5, 6, 8, 9, 10, 11, 12, 13, 15, 20):
            self.assert_not_a_picture(square(21, run))
            self.assert_not_a_picture(framed(square(21, run), 1))
        self.assertEqual(len(scan(square(21, 7))), 21)

    def test_a_frame_that_is_no_square(self):
        picture = square(21, 7)
        self.assertEqual(len(scan(framed(picture, 1))), 21)
        self.assert_not_a_picture(picture[:17] + picture[20:])
        self.assert_not_a_picture(picture[:10] + picture[9:])
        self.assert_not_a_picture(picture[:10] + [picture[9]] * 4 + picture[10:])
        self.assert_not_a_picture([row[:10] + [255] * 4 + row[10:] for row in picture])
        self.assert_not_a_picture([row[:-1] + [255, 0] for row in picture])

    def test_a_side_that_is_not_whole(self):
        for side in (41, 43, 44, 45, 49):
            self.assert_not_a_picture(square(side, 14))
        self.assertEqual(len(scan(square(42, 14))), 21)
        for side in (62, 64, 65, 74):
            self.assert_not_a_picture(square(side, 21))
        self.assertEqual(len(scan(square(63, 21))), 21)
        self.assertEqual(len(scan(square(75, 21))), 25)

    def test_a_side_that_no_version_has(self):
        for side in range(8, 190):
            if side in range(21, 178, 4):
                self.assertEqual(len(scan(square(side, 7))), side)
            else:
                self.assert_not_a_picture(square(side, 7))
        for side in (13, 17, 20, 22, 24, 26, 178, 181):
            self.assert_not_a_picture(square(2 * side, 14))

    def test_a_symbol_whose_finder_is_damaged(self):
        grid = encode([1], mask=0).grid
        for i in range(7):
            wrong = copy_of(grid)
            wrong[0][i] = 0
            self.assert_not_a_picture(paint(wrong))
        wrong = copy_of(grid)
        wrong[0][7] = 1
        self.assert_not_a_picture(paint(wrong))

    def test_a_dark_gray_that_is_greater(self):
        # The quiet zone is then the frame, and its first row has one run over all of its width.
        grid = encode([1], mask=0).grid
        self.assert_not_a_picture(paint(grid, scale=1, quiet=1, dark=255, light=0))


if __name__ == "__main__":
    unittest.main()
