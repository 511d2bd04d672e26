"""Promises 07.1 to 07.4 (and 05.1 over them), and the interface of dotfield.layout."""

import unittest

from dotfield.layout import data_places, fixed_modules, format_places, function_modules, version_places
from dotfield.tables import total_words
from tests.test_tables import ALIGNMENT

VERSIONS = range(1, 41)

FINDER = """
XXXXXXX
X     X
X XXX X
X XXX X
X XXX X
X     X
XXXXXXX
"""

ALIGNMENT_PATTERN = """
XXXXX
X   X
X X X
X   X
XXXXX
"""


def side_of(version):
    return 17 + 4 * version


def rows_of(picture):
    return [[int(one == "X") for one in line] for line in picture.strip("\n").split("\n")]


def alignment_of(version):
    lines = [[int(one) for one in line.split()] for line in ALIGNMENT.strip().split("\n")]
    return lines[version - 1][1:]


def stamp(modules, rows, top, left):
    for i, row in enumerate(rows):
        for j, module in enumerate(row):
            modules[top + i, left + j] = module


def plain_timing(version):
    modules = {}
    for i in range(8, side_of(version) - 8):
        modules[6, i] = modules[i, 6] = int(i % 2 == 0)
    return modules


def plain_finders(version):
    """The finders and their separators."""
    n = side_of(version)
    modules = {}
    for top, left in ((0, 0), (0, n - 8), (n - 8, 0)):
        stamp(modules, [[0] * 8] * 8, top, left)
    for top, left in ((0, 0), (0, n - 7), (n - 7, 0)):
        stamp(modules, rows_of(FINDER), top, left)
    return modules


def plain_alignment(version):
    places = alignment_of(version)
    modules = {}
    for row in places:
        for column in places:
            if (row, column) not in ((6, 6), (6, places[-1]), (places[-1], 6)):
                stamp(modules, rows_of(ALIGNMENT_PATTERN), row - 2, column - 2)
    return modules


def plain_fixed(version):
    """All function patterns but the two words, by their places."""
    modules = plain_timing(version) | plain_finders(version) | plain_alignment(version)
    modules[4 * version + 9, 8] = 1
    return modules


def plain_format_places(version):
    n = side_of(version)
    first = {6: (7, 8), 7: (8, 8), 8: (8, 7)}
    second = {}
    for i in range(0, 6):
        first[i] = (i, 8)
    for i in range(9, 15):
        first[i] = (8, 14 - i)
    for i in range(0, 8):
        second[i] = (8, n - 1 - i)
    for i in range(8, 15):
        second[i] = (n - 15 + i, 8)
    return [first[i] for i in range(15)], [second[i] for i in range(15)]


def plain_version_places(version):
    n = side_of(version)
    if version < 7:
        return [], []
    first = [(i // 3, n - 11 + i % 3) for i in range(18)]
    return first, [(column, row) for row, column in first]


def plain_function_places(version):
    places = set(plain_fixed(version))
    for copies in (plain_format_places(version), plain_version_places(version)):
        for copy in copies:
            places |= set(copy)
    return places


def plain_data_places(version):
    """A walk that turns around at the upper and at the lower edge."""
    n = side_of(version)
    taken = plain_function_places(version)
    places = []
    upwards = True
    right = n - 1
    while right > 0:
        if right == 6:
            right = 5
        for step in range(n):
            row = n - 1 - step if upwards else step
            for column in (right, right - 1):
                if (row, column) not in taken:
                    places.append((row, column))
        upwards = not upwards
        right -= 2
    return places


class Case(unittest.TestCase):

    def assert_rows(self, found, version, kind):
        n = side_of(version)
        self.assertIs(type(found), list)
        self.assertEqual(len(found), n)
        for row in found:
            self.assertIs(type(row), list)
            self.assertEqual(len(row), n)
            self.assertTrue(all(type(one) is kind for one in row))
        self.assertEqual(len({id(row) for row in found}), n)

    def assert_places(self, found):
        self.assertIs(type(found), list)
        for place in found:
            self.assertIs(type(place), tuple)
            self.assertEqual([type(one) for one in place], [int, int])

    def assert_copies(self, found, expected):
        self.assertIs(type(found), tuple)
        self.assertEqual(len(found), 2)
        for copy in found:
            self.assert_places(copy)
        self.assertEqual(found, expected)


class FixedModules(Case):

    def test_every_version_against_a_plain_drawing(self):
        for version in VERSIONS:
            with self.subTest(version):
                found = fixed_modules(version)
                self.assert_rows(found, version, int)
                n = side_of(version)
                drawn = plain_fixed(version)
                expected = [[drawn.get((i, j), 0) for j in range(n)] for i in range(n)]
                self.assertEqual(found, expected)

    def test_version_1_as_a_picture(self):
        expected = """
XXXXXXX       XXXXXXX
X     X       X     X
X XXX X       X XXX X
X XXX X       X XXX X
X XXX X       X XXX X
X     X       X     X
XXXXXXX X X X XXXXXXX
                     
      X              
                     
      X              
                     
      X              
        X            
XXXXXXX              
X     X              
X XXX X              
X XXX X              
X XXX X              
X     X              
XXXXXXX              
"""
        self.assertEqual(fixed_modules(1), rows_of(expected))

    def test_version_2_has_one_alignment_pattern(self):
        found = fixed_modules(2)
        self.assertEqual([row[16:21] for row in found[16:21]], rows_of(ALIGNMENT_PATTERN))
        around = [found[15][16:22], found[21][16:22], [row[15] for row in found[15:22]]]
        self.assertFalse(any(any(line) for line in around))

    def test_the_finders_stay_whole(self):
        for version in VERSIONS:
            found = fixed_modules(version)
            n = side_of(version)
            for top, left in ((0, 0), (0, n - 7), (n - 7, 0)):
                self.assertEqual([row[left:left + 7] for row in found[top:top + 7]], rows_of(FINDER))

    def test_the_separators_are_light(self):
        for version in VERSIONS:
            found = fixed_modules(version)
            n = side_of(version)
            for i in range(8):
                self.assertEqual([found[7][i], found[i][7]], [0, 0])
                self.assertEqual([found[7][n - 1 - i], found[i][n - 8]], [0, 0])
                self.assertEqual([found[n - 8][i], found[n - 1 - i][7]], [0, 0])

    def test_the_timing_patterns_also_under_alignment_patterns(self):
        for version in VERSIONS:
            found = fixed_modules(version)
            for i in range(8, side_of(version) - 8):
                self.assertEqual([found[6][i], found[i][6]], [1 - i % 2, 1 - i % 2])

    def test_alignment_patterns_over_the_timing_patterns(self):
        for version in range(7, 41):
            found = fixed_modules(version)
            for middle in alignment_of(version)[1:-1]:
                over_row = [row[middle - 2:middle + 3] for row in found[4:9]]
                over_column = [row[4:9] for row in found[middle - 2:middle + 3]]
                self.assertEqual([over_row, over_column], [rows_of(ALIGNMENT_PATTERN)] * 2)

    def test_the_dark_module(self):
        for version in VERSIONS:
            self.assertEqual(fixed_modules(version)[4 * version + 9][8], 1)

    def test_the_places_of_the_words_are_0(self):
        for version in VERSIONS:
            found = fixed_modules(version)
            for first, second in (plain_format_places(version), plain_version_places(version)):
                self.assertEqual({found[row][column] for row, column in first + second}, {0} if first else set())

    def test_the_rows_are_new(self):
        for version in (1, 7):
            expected = fixed_modules(version)
            found = fixed_modules(version)
            for row in found:
                row[:] = [5] * len(row)
            found.clear()
            self.assertEqual(fixed_modules(version), expected)


class FunctionModules(Case):

    def test_every_version_against_a_plain_drawing(self):
        for version in VERSIONS:
            with self.subTest(version):
                found = function_modules(version)
                self.assert_rows(found, version, bool)
                n = side_of(version)
                taken = plain_function_places(version)
                self.assertEqual(found, [[(i, j) in taken for j in range(n)] for i in range(n)])

    def test_the_other_modules_are_those_of_the_words(self):
        for version in VERSIONS:
            others = sum(row.count(False) for row in function_modules(version))
            self.assertEqual(others // 8, total_words(version))

    def test_the_places_of_the_format_words(self):
        for version in VERSIONS:
            found = function_modules(version)
            first, second = plain_format_places(version)
            self.assertTrue(all(found[row][column] for row, column in first + second))

    def test_the_places_of_the_version_words_from_version_7_on(self):
        for version in VERSIONS:
            found = function_modules(version)
            n = side_of(version)
            for i in range(6):
                for j in range(n - 11, n - 8):
                    self.assertIs(found[i][j], version >= 7)
                    self.assertIs(found[j][i], version >= 7)

    def test_version_1_has_no_alignment_pattern(self):
        found = function_modules(1)
        self.assertFalse(any(any(row[9:]) for row in found[9:]))

    def test_the_rows_are_new(self):
        for version in (1, 7):
            expected = function_modules(version)
            found = function_modules(version)
            for row in found:
                row[:] = [None] * len(row)
            found.clear()
            self.assertEqual(function_modules(version), expected)


class FormatPlaces(Case):

    def test_a_small_version(self):
        first = [
            (0, 8), (1, 8), (2, 8), (3, 8), (4, 8), (5, 8), (7, 8), (8, 8), (8, 7),
            (8, 5), (8, 4), (8, 3), (8, 2), (8, 1), (8, 0),
        ]
        second = [
            (8, 20), (8, 19), (8, 18), (8, 17), (8, 16), (8, 15), (8, 14), (8, 13),
            (14, 8), (15, 8), (16, 8), (17, 8), (18, 8), (19, 8), (20, 8),
        ]
        self.assert_copies(format_places(1), (first, second))

    def test_a_large_version(self):
        first = [
            (0, 8), (1, 8), (2, 8), (3, 8), (4, 8), (5, 8), (7, 8), (8, 8), (8, 7),
            (8, 5), (8, 4), (8, 3), (8, 2), (8, 1), (8, 0),
        ]
        second = [
            (8, 176), (8, 175), (8, 174), (8, 173), (8, 172), (8, 171), (8, 170), (8, 169),
            (170, 8), (171, 8), (172, 8), (173, 8), (174, 8), (175, 8), (176, 8),
        ]
        self.assert_copies(format_places(40), (first, second))

    def test_every_version(self):
        for version in VERSIONS:
            self.assert_copies(format_places(version), plain_format_places(version))

    def test_the_lists_are_new(self):
        expected = format_places(3)
        for copy in format_places(3):
            copy.clear()
        self.assertEqual(format_places(3), expected)


class VersionPlaces(Case):

    def test_below_version_7_there_are_none(self):
        for version in range(1, 7):
            self.assert_copies(version_places(version), ([], []))

    def test_the_least_version_that_has_them(self):
        first = [
            (0, 34), (0, 35), (0, 36), (1, 34), (1, 35), (1, 36), (2, 34), (2, 35), (2, 36),
            (3, 34), (3, 35), (3, 36), (4, 34), (4, 35), (4, 36), (5, 34), (5, 35), (5, 36),
        ]
        self.assert_copies(version_places(7), (first, [(column, row) for row, column in first]))

    def test_a_large_version(self):
        first = [
            (0, 166), (0, 167), (0, 168), (1, 166), (1, 167), (1, 168), (2, 166), (2, 167), (2, 168),
            (3, 166), (3, 167), (3, 168), (4, 166), (4, 167), (4, 168), (5, 166), (5, 167), (5, 168),
        ]
        self.assert_copies(version_places(40), (first, [(column, row) for row, column in first]))

    def test_every_version(self):
        for version in VERSIONS:
            self.assert_copies(version_places(version), plain_version_places(version))

    def test_the_lists_are_new(self):
        for version in (6, 7):
            expected = version_places(version)
            for copy in version_places(version):
                copy.append((0, 0))
            self.assertEqual(version_places(version), expected)


class DataPlaces(Case):

    def test_the_example_of_the_interface(self):
        self.assertEqual(
            [len(data_places(1)), data_places(1)[:3]],
            [208, [(20, 20), (20, 19), (19, 20)]])

    def test_every_version_in_the_order_of_a_plain_walk(self):
        for version in VERSIONS:
            with self.subTest(version):
                found = data_places(version)
                self.assert_places(found)
                self.assertEqual(found, plain_data_places(version))

    def test_each_module_outside_of_the_function_patterns_once(self):
        for version in VERSIONS:
            found = data_places(version)
            taken = plain_function_places(version)
            n = side_of(version)
            self.assertEqual(len(found), n * n - len(taken))
            self.assertEqual(len(set(found)), len(found))
            self.assertTrue(taken.isdisjoint(found))
            self.assertTrue(all(0 <= row < n and 0 <= column < n for row, column in found))

    def test_their_number_tells_the_number_of_words(self):
        for version in VERSIONS:
            self.assertEqual(len(data_places(version)) // 8, total_words(version))

    def test_the_first_pair_goes_up_and_the_second_one_down(self):
        found = data_places(1)
        up = [(row, column) for row in range(20, 8, -1) for column in (20, 19)]
        down = [(row, column) for row in range(9, 21) for column in (18, 17)]
        self.assertEqual(found[:48], up + down)

    def test_column_6_is_left_out_and_the_pairs_behind_it_are_shifted(self):
        # Version 1 has ten pairs. The seventh, 8 and 7, goes up; those behind column 6 go on in turn.
        found = data_places(1)
        self.assertNotIn(6, [column for _, column in found])
        expected = [(row, column) for row in range(12, 8, -1) for column in (8, 7)]
        expected += [(row, column) for row in range(9, 13) for column in (5, 4)]
        expected += [(row, column) for row in range(12, 8, -1) for column in (3, 2)]
        expected += [(row, column) for row in range(9, 13) for column in (1, 0)]
        self.assertEqual(found[-32:], expected)

    def test_the_timing_row_is_passed_over(self):
        found = data_places(1)
        at = found.index((7, 12))
        self.assertEqual(found[at - 1:at + 3], [(8, 11), (7, 12), (7, 11), (5, 12)])

    def test_the_list_is_new(self):
        expected = data_places(2)
        found = data_places(2)
        found.reverse()
        found.pop()
        self.assertEqual(data_places(2), expected)


if __name__ == "__main__":
    unittest.main()
