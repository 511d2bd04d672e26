"""Promises 11.1 to 11.3 and 13.4, and the interface of dotfield.turning."""

import random
import unittest

from dotfield.errors import AmbiguousTurn, InvalidFormat, InvalidMode, InvalidVersion, NotASymbol, TooDamaged
from dotfield.reading import read
from dotfield.symbol import encode
from dotfield.turning import find_turn, mirrored, read_turned, turn_count, turned
from tests import plain
from tests.test_layout import FINDER, plain_format_places, plain_version_places, rows_of, side_of
from tests.test_words import least_distance

# No format word is near it.
FAR_WORD = next(word for word in range(1 << 15) if least_distance(word) > 3)

CORNERS = ("top left", "top right", "bottom left", "bottom right")


def copy_of(grid):
    return [list(row) for row in grid]


def plain_turned(grid, quarters):
    n = len(grid)
    for _ in range(quarters):
        grid = [[grid[n - 1 - j][i] for j in range(n)] for i in range(n)]
    return grid


def corner_modules(grid, corner):
    """The 8 by 8 modules at a corner, turned so that the corner is at their top left."""
    rows = [row[-8:][::-1] if "right" in corner else row[:8] for row in grid]
    return rows[-8:][::-1] if "bottom" in corner else rows[:8]


def plain_corner_count(grid, corner):
    # A finder is the same from all sides.
    finder = [row + [0] for row in rows_of(FINDER)] + [[0] * 8]
    found = corner_modules(grid, corner)
    return sum(found[i][j] != finder[i][j] for i in range(8) for j in range(8))


def plain_turn_count(grid):
    return sum(plain_corner_count(grid, corner) for corner in CORNERS[:3])


def some_grid(chance, side, numbers=2):
    return [[chance.randrange(numbers) for _ in range(side)] for _ in range(side)]


def with_four_finders(level, mask):
    """A grid of version 1 whose words draw a finder at the bottom right, too."""
    wanted = plain.draw([0] * 26, 1, level, mask)
    finder = [[0] * 8] + [[0] + row for row in rows_of(FINDER)]
    for i in range(8):
        wanted[13 + i][13:] = finder[i]
    bits = [wanted[i][j] ^ plain.CONDITIONS[mask](i, j) for i, j in plain.places_of(1)]
    words = [int("".join(map(str, bits[start:start + 8])), 2) for start in range(0, 208, 8)]
    data = words[:plain.room(1, level) // 8]
    return plain.draw(plain.word_list(data, 1, level), 1, level, mask)


class Case(unittest.TestCase):

    def assert_new_rows(self, found, grid):
        self.assertIs(type(found), list)
        self.assertTrue(all(type(row) is list for row in found))
        ids = {id(row) for row in grid}
        self.assertTrue(all(id(row) not in ids for row in found))
        self.assertEqual(len({id(row) for row in found}), len(found))
        self.assertIsNot(found, grid)

    def assert_raised(self, error, place, call, grid):
        kept = copy_of(grid)
        with self.assertRaises(error) as found:
            call(grid)
        self.assertIs(type(found.exception), error)
        self.assertEqual([found.exception.place, found.exception.name], [place, error.__name__])
        self.assertEqual(grid, kept)


class Turned(Case):

    def assert_turned(self, grid):
        kept = copy_of(grid)
        for quarters in range(4):
            found = turned(grid, quarters)
            self.assertEqual(grid, kept)
            self.assertEqual(found, plain_turned(kept, quarters))
            self.assert_new_rows(found, grid)

    def test_the_example_of_the_interface(self):
        self.assertEqual(turned([[1, 2], [3, 4]], 1), [[3, 1], [4, 2]])

    def test_small_grids(self):
        self.assertEqual([turned([[1, 2], [3, 4]], quarters) for quarters in range(4)],
                         [[[1, 2], [3, 4]], [[3, 1], [4, 2]], [[4, 3], [2, 1]], [[2, 4], [1, 3]]])
        for quarters in range(4):
            self.assertEqual(turned([[7]], quarters), [[7]])
        self.assertEqual(turned([[1, 2, 3], [4, 5, 6], [7, 8, 9]], 1), [[7, 4, 1], [8, 5, 2], [9, 6, 3]])

    def test_any_grids(self):
        chance = random.Random(51)
        for side in (1, 2, 3, 4, 7, 8, 20, 21, 177):
            self.assert_turned(some_grid(chance, side, 1000))

    def test_the_point_itself(self):
        grid = some_grid(random.Random(52), 9, 1000)
        found = turned(grid, 1)
        for i in range(9):
            for j in range(9):
                self.assertEqual(found[i][j], grid[8 - j][i])

    def test_four_quarters_one_after_the_other(self):
        grid = some_grid(random.Random(53), 6, 50)
        for quarters in range(4):
            self.assertEqual(turned(turned(grid, quarters), (4 - quarters) % 4), grid)

    def test_0_quarters_give_new_rows(self):
        grid = [[1, 2], [3, 4]]
        found = turned(grid, 0)
        self.assertEqual(found, grid)
        self.assert_new_rows(found, grid)
        found[0][0] = 9
        found.pop()
        self.assertEqual(grid, [[1, 2], [3, 4]])


class Mirrored(Case):

    def test_rows_and_columns_are_exchanged(self):
        self.assertEqual(mirrored([[1, 2], [3, 4]]), [[1, 3], [2, 4]])
        self.assertEqual(mirrored([[5]]), [[5]])
        chance = random.Random(54)
        for side in (1, 2, 3, 10, 21, 45):
            grid = some_grid(chance, side, 1000)
            kept = copy_of(grid)
            found = mirrored(grid)
            self.assertEqual(grid, kept)
            self.assert_new_rows(found, grid)
            self.assertEqual(found, [[grid[j][i] for j in range(side)] for i in range(side)])
            self.assertEqual(mirrored(found), grid)


class TurnCount(Case):

    def assert_count(self, grid, expected=None):
        kept = copy_of(grid)
        found = turn_count(grid)
        self.assertIs(type(found), int)
        self.assertEqual(grid, kept)
        self.assertEqual(found, plain_turn_count(grid))
        if expected is not None:
            self.assertEqual(found, expected)

    def test_intact_finders(self):
        for version in plain.VERSIONS:
            grid = plain.draw([0] * plain.total_words(version), version, "L", 0)
            self.assert_count(grid, 0)

    def test_turned_symbols(self):
        for version in (1, 2, 7):
            grid = encode([1, 2], least=version).grid
            for quarters in range(4):
                found = turned(grid, quarters)
                self.assert_count(found)
                self.assertEqual(turn_count(found) == 0, quarters == 0)

    def test_each_module_of_the_corners(self):
        grid = encode([1, 2], mask=0).grid
        places = {(i, j) for i in range(8) for j in range(8)}
        places |= {(i, 20 - j) for i, j in places} | {(20 - i, j) for i, j in places}
        self.assertEqual(len(places), 192)
        for i in range(21):
            for j in range(21):
                changed = copy_of(grid)
                changed[i][j] ^= 1
                self.assert_count(changed, int((i, j) in places))

    def test_all_light_and_all_dark(self):
        dark = sum(map(sum, rows_of(FINDER)))
        for side in (8, 9, 15, 16, 21, 50):
            self.assert_count([[0] * side for _ in range(side)], 3 * dark)
            self.assert_count([[1] * side for _ in range(side)], 3 * (64 - dark))

    def test_any_grids(self):
        chance = random.Random(55)
        for side in (8, 9, 10, 12, 15, 16, 17, 21, 22, 40):
            for _ in range(5):
                self.assert_count(some_grid(chance, side))


class FindTurn(Case):

    def test_each_turn(self):
        for version in (1, 2, 6, 7, 21, 40):
            grid = encode([1, 2, 3], least=version, mask=2).grid
            self.assertGreater(plain_corner_count(grid, "bottom right"), 0)
            for quarters in range(4):
                given = turned(grid, quarters)
                kept = copy_of(given)
                found = find_turn(given)
                self.assertIs(type(found), int)
                self.assertEqual(found, (4 - quarters) % 4)
                self.assertEqual(given, kept)
                self.assertEqual(turned(given, found), grid)

    def test_damaged_finders(self):
        chance = random.Random(56)
        for version in (1, 3, 7):
            grid = encode([1, 2, 3], least=version, mask=1).grid
            for _ in range(20):
                damaged = copy_of(grid)
                for _ in range(20):
                    damaged[chance.randrange(8)][chance.randrange(8)] ^= 1
                for quarters in range(4):
                    given = turned(damaged, quarters)
                    counts = [plain_turn_count(plain_turned(given, one)) for one in range(4)]
                    if counts.count(min(counts)) == 1:
                        self.assertEqual(find_turn(given), counts.index(min(counts)))
                    else:
                        self.assert_raised(AmbiguousTurn, 0, find_turn, given)

    def test_any_grids(self):
        chance = random.Random(57)
        for side in (21, 25, 45):
            for _ in range(20):
                grid = some_grid(chance, side)
                counts = [plain_turn_count(plain_turned(grid, quarters)) for quarters in range(4)]
                if counts.count(min(counts)) == 1:
                    self.assertEqual(find_turn(grid), counts.index(min(counts)))
                else:
                    self.assert_raised(AmbiguousTurn, 0, find_turn, grid)

    def test_two_turns_with_the_least_count(self):
        for module in (0, 1):
            self.assert_raised(AmbiguousTurn, 0, find_turn, [[module] * 21 for _ in range(21)])
        # Four finders in one grid: all turns are equal. Without two at the left, two turns are.
        grid = encode([1], least=2, mask=0).grid
        for i, row in enumerate([[0] * 8] + [[0] + row for row in rows_of(FINDER)]):
            grid[17 + i][17:] = row
        self.assertEqual([turn_count(turned(grid, quarters)) for quarters in range(4)], [0] * 4)
        self.assert_raised(AmbiguousTurn, 0, find_turn, grid)
        for i in range(25):
            grid[i][:8] = [0] * 8
        counts = [turn_count(turned(grid, quarters)) for quarters in range(4)]
        self.assertEqual(counts.count(min(counts)), 2)
        self.assert_raised(AmbiguousTurn, 0, find_turn, grid)

    def test_two_equal_counts_that_are_not_the_least(self):
        grid = encode([1], least=2, mask=0).grid
        for i in range(25):
            grid[i][17:] = [0] * 8 if i >= 17 else grid[i][17:]
        counts = [turn_count(turned(grid, quarters)) for quarters in range(4)]
        self.assertEqual([counts[0], len(set(counts))], [0, 2])
        self.assertEqual(find_turn(grid), 0)

    def test_no_rows(self):
        self.assert_raised(NotASymbol, 0, find_turn, [])

    def test_sides_that_no_version_has(self):
        for side in (1, 4, 17, 20, 22, 23, 24, 26, 178, 181, 185):
            self.assert_raised(NotASymbol, 0, find_turn, [[0] * side for _ in range(side)])

    def test_rows_of_unequal_length(self):
        for row in (0, 10, 20):
            for length in (0, 20, 22, 25):
                grid = encode([1]).grid
                grid[row] = [0] * length
                self.assert_raised(NotASymbol, 0, find_turn, grid)
        self.assert_raised(NotASymbol, 0, find_turn, encode([1]).grid[:-1])
        self.assert_raised(NotASymbol, 0, find_turn, encode([1]).grid[:-4])

    def test_a_value_other_than_0_and_1(self):
        for value in (2, -1, 255, 10 ** 20):
            for place in ((0, 0), (10, 10), (20, 20), (20, 0)):
                grid = encode([1]).grid
                grid[place[0]][place[1]] = value
                self.assert_raised(NotASymbol, 0, find_turn, grid)

    def test_no_grid_comes_before_two_turns(self):
        grid = [[0] * 21 for _ in range(21)]
        self.assert_raised(AmbiguousTurn, 0, find_turn, grid)
        grid[20][3] = 2
        self.assert_raised(NotASymbol, 0, find_turn, grid)


class ReadTurned(Case):

    def test_each_turn(self):
        for version in (1, 5, 7, 14):
            symbol = encode(list(b"abc123"), level="Q", least=version, header=(1, 2, 3))
            for quarters in range(4):
                given = turned(symbol.grid, quarters)
                kept = copy_of(given)
                self.assertEqual(read_turned(given), read(symbol.grid))
                self.assertEqual(given, kept)

    def test_damaged_symbols(self):
        chance = random.Random(58)
        symbol = encode(list(b"abc123"), level="H", least=3, mask=4)
        for _ in range(10):
            damaged = copy_of(symbol.grid)
            for place in chance.sample([(i, j) for i in range(8) for j in range(7)], 6):
                damaged[place[0]][place[1]] ^= 1
            damaged[28][28] ^= 1
            for quarters in range(4):
                found = read_turned(turned(damaged, quarters))
                self.assertEqual(found, read(damaged))
                self.assertEqual([found.text, sum(found.changed)], [list(b"abc123"), 1])

    def test_no_grid(self):
        self.assert_raised(NotASymbol, 0, read_turned, [])
        self.assert_raised(NotASymbol, 0, read_turned, [[0, 1], [1, 0]])
        grid = encode([1]).grid
        grid[4][4] = 3
        self.assert_raised(NotASymbol, 0, read_turned, grid)

    def test_two_turns_come_before_what_read_raises(self):
        for version in (1, 7):
            # No place of a format word is in a corner, so all turns have the same count.
            grid = [[0] * side_of(version) for _ in range(side_of(version))]
            for copy in plain_format_places(version):
                for i, (row, column) in enumerate(copy):
                    grid[row][column] = plain.plain_format_word("L", 0) >> i & 1
            self.assert_raised(InvalidVersion if version == 7 else TooDamaged, 0, read, grid)
            self.assert_raised(AmbiguousTurn, 0, read_turned, grid)

    def test_what_read_raises(self):
        for quarters in range(4):
            grid = encode([1, 2], level="L", least=7, mask=0).grid
            data = [0xF0] + [0] * (plain.room(1, "L") // 8 - 1)
            wrong = plain.draw(plain.word_list(data, 1, "L"), 1, "L", 3)
            self.assert_raised(InvalidMode, 0, read_turned, turned(wrong, quarters))
            damaged = copy_of(grid)
            for row, column in plain.places_of(7)[:800:2]:
                damaged[row][column] ^= 1
            self.assert_raised(TooDamaged, 0, read_turned, turned(damaged, quarters))
            for copy in plain_format_places(7):
                for i, (row, column) in enumerate(copy):
                    damaged[row][column] = FAR_WORD >> i & 1
            self.assert_raised(InvalidFormat, 0, read_turned, turned(damaged, quarters))
            for copy in plain_version_places(7):
                for row, column in copy:
                    damaged[row][column] = 0
            self.assert_raised(InvalidVersion, 0, read_turned, turned(damaged, quarters))

    def test_a_corner_count_of_0_at_the_bottom_right(self):
        for mask in range(8):
            grid = with_four_finders("L", mask)
            self.assertEqual([plain_corner_count(grid, corner) for corner in CORNERS], [0] * 4)
            for quarters in range(4):
                self.assert_raised(AmbiguousTurn, 0, find_turn, turned(grid, quarters))
                self.assert_raised(AmbiguousTurn, 0, read_turned, turned(grid, quarters))

    def test_a_corner_count_of_1_at_the_bottom_right(self):
        for mask in range(8):
            for place in ((20, 20), (13, 13), (17, 17), (13, 20)):
                grid = with_four_finders("L", mask)
                grid[place[0]][place[1]] ^= 1
                for quarters in range(4):
                    self.assertEqual(find_turn(turned(grid, quarters)), (4 - quarters) % 4)


if __name__ == "__main__":
    unittest.main()
