"""Promises 05.1 to 05.5, and the interface of dotfield.tables."""

import unittest

from dotfield.tables import alignment, block_sizes, check_count, count_bits, data_words, total_words

VERSIONS = range(1, 41)
LEVELS = "LMQH"

TABLE = """
| 1 | 7 1 | 10 1 | 13 1 | 17 1 |
| 2 | 10 1 | 16 1 | 22 1 | 28 1 |
| 3 | 15 1 | 26 1 | 18 2 | 22 2 |
| 4 | 20 1 | 18 2 | 26 2 | 16 4 |
| 5 | 26 1 | 24 2 | 18 4 | 22 4 |
| 6 | 18 2 | 16 4 | 24 4 | 28 4 |
| 7 | 20 2 | 18 4 | 18 6 | 26 5 |
| 8 | 24 2 | 22 4 | 22 6 | 26 6 |
| 9 | 30 2 | 22 5 | 20 8 | 24 8 |
| 10 | 18 4 | 26 5 | 24 8 | 28 8 |
| 11 | 20 4 | 30 5 | 28 8 | 24 11 |
| 12 | 24 4 | 22 8 | 26 10 | 28 11 |
| 13 | 26 4 | 22 9 | 24 12 | 22 16 |
| 14 | 30 4 | 24 9 | 20 16 | 24 16 |
| 15 | 22 6 | 24 10 | 30 12 | 24 18 |
| 16 | 24 6 | 28 10 | 24 17 | 30 16 |
| 17 | 28 6 | 28 11 | 28 16 | 28 19 |
| 18 | 30 6 | 26 13 | 28 18 | 28 21 |
| 19 | 28 7 | 26 14 | 26 21 | 26 25 |
| 20 | 28 8 | 26 16 | 30 20 | 28 25 |
| 21 | 28 8 | 26 17 | 28 23 | 30 25 |
| 22 | 28 9 | 28 17 | 30 23 | 24 34 |
| 23 | 30 9 | 28 18 | 30 25 | 30 30 |
| 24 | 30 10 | 28 20 | 30 27 | 30 32 |
| 25 | 26 12 | 28 21 | 30 29 | 30 35 |
| 26 | 28 12 | 28 23 | 28 34 | 30 37 |
| 27 | 30 12 | 28 25 | 30 34 | 30 40 |
| 28 | 30 13 | 28 26 | 30 35 | 30 42 |
| 29 | 30 14 | 28 28 | 30 38 | 30 45 |
| 30 | 30 15 | 28 29 | 30 40 | 30 48 |
| 31 | 30 16 | 28 31 | 30 43 | 30 51 |
| 32 | 30 17 | 28 33 | 30 45 | 30 54 |
| 33 | 30 18 | 28 35 | 30 48 | 30 57 |
| 34 | 30 19 | 28 37 | 30 51 | 30 60 |
| 35 | 30 19 | 28 38 | 30 53 | 30 63 |
| 36 | 30 20 | 28 40 | 30 56 | 30 66 |
| 37 | 30 21 | 28 43 | 30 59 | 30 70 |
| 38 | 30 22 | 28 45 | 30 62 | 30 74 |
| 39 | 30 24 | 28 47 | 30 65 | 30 77 |
| 40 | 30 25 | 28 49 | 30 68 | 30 81 |
"""

ALIGNMENT = """
1
2 6 18
3 6 22
4 6 26
5 6 30
6 6 34
7 6 22 38
8 6 24 42
9 6 26 46
10 6 28 50
11 6 30 54
12 6 32 58
13 6 34 62
14 6 26 46 66
15 6 26 48 70
16 6 26 50 74
17 6 30 54 78
18 6 30 56 82
19 6 30 58 86
20 6 34 62 90
21 6 28 50 72 94
22 6 26 50 74 98
23 6 30 54 78 102
24 6 28 54 80 106
25 6 32 58 84 110
26 6 30 58 86 114
27 6 34 62 90 118
28 6 26 50 74 98 122
29 6 30 54 78 102 126
30 6 26 52 78 104 130
31 6 30 56 82 108 134
32 6 34 60 86 112 138
33 6 30 58 86 114 142
34 6 34 62 90 118 146
35 6 30 54 78 102 126 150
36 6 24 50 76 102 128 154
37 6 28 54 80 106 132 158
38 6 32 58 84 110 136 162
39 6 26 54 82 110 138 166
40 6 30 58 86 114 142 170
"""


def table_rows():
    """For each version, and each level: the check words of each block and the number of blocks."""
    rows = {}
    for line in TABLE.split("\n"):
        cells = [cell.split() for cell in line.split("|")[1:-1]]
        if cells:
            rows[int(cells[0][0])] = {level: (int(a), int(b)) for level, (a, b) in zip(LEVELS, cells[1:])}
    return rows


def alignment_rows():
    lines = [[int(one) for one in line.split()] for line in ALIGNMENT.strip().split("\n")]
    return {line[0]: line[1:] for line in lines}


def square(row, column, side):
    return {(row + i, column + j) for i in range(side) for j in range(side)}


def data_module_count(version):
    """The function patterns of point 07.1, drawn module by module."""
    side = 17 + 4 * version
    last = 4 * version + 10
    drawn = square(0, 0, 8) | square(0, side - 8, 8) | square(side - 8, 0, 8)
    drawn |= {(6, i) for i in range(side)} | {(i, 6) for i in range(side)}
    for row in alignment_rows()[version]:
        for column in alignment_rows()[version]:
            if (row, column) not in ((6, 6), (6, last), (last, 6)):
                drawn |= square(row - 2, column - 2, 5)
    drawn.add((4 * version + 9, 8))
    # The modules of the format words (point 07.2) and of the version words (point 07.3).
    drawn |= {(8, i) for i in range(9)} | {(i, 8) for i in range(9)}
    drawn |= {(8, side - 1 - i) for i in range(8)} | {(side - 15 + i, 8) for i in range(8, 15)}
    if version >= 7:
        drawn |= {(i // 3, side - 11 + i % 3) for i in range(18)}
        drawn |= {(side - 11 + i % 3, i // 3) for i in range(18)}
    assert all(0 <= row < side and 0 <= column < side for row, column in drawn)
    return side * side - len(drawn)


class Case(unittest.TestCase):

    def assert_integer(self, found, expected):
        self.assertIs(type(found), int)
        self.assertEqual(found, expected)

    def assert_integers(self, found, expected):
        self.assertIs(type(found), list)
        self.assertEqual(found, expected)
        self.assertTrue(all(type(one) is int for one in found))


class Words(Case):

    def test_the_modules_outside_of_the_function_patterns(self):
        for version in VERSIONS:
            with self.subTest(version):
                self.assert_integer(total_words(version), data_module_count(version) // 8)

    def test_some_numbers_of_words(self):
        expected = {1: 26, 2: 44, 6: 172, 7: 196, 13: 532, 14: 581, 20: 1085, 21: 1156, 32: 2465, 39: 3532, 40: 3706}
        self.assertEqual({version: total_words(version) for version in expected}, expected)

    def test_rounding_down(self):
        self.assertEqual([data_module_count(version) % 8 for version in (1, 2, 14, 21, 28)], [0, 7, 3, 4, 3])
        self.assertEqual([total_words(version) for version in (2, 14, 21, 28)], [44, 581, 1156, 1921])


class Blocks(Case):

    def test_the_example_of_the_interface(self):
        self.assertEqual(block_sizes(5, "Q"), [15, 15, 16, 16])

    def test_the_table_is_whole(self):
        self.assertEqual(list(table_rows()), list(VERSIONS))

    def test_the_check_words_of_each_block(self):
        for version, row in table_rows().items():
            for level in LEVELS:
                with self.subTest(version, level=level):
                    self.assert_integer(check_count(version, level), row[level][0])

    def test_the_number_of_blocks(self):
        for version, row in table_rows().items():
            for level in LEVELS:
                with self.subTest(version, level=level):
                    self.assertEqual(len(block_sizes(version, level)), row[level][1])

    def test_the_sizes_of_all_blocks(self):
        for version, row in table_rows().items():
            words = data_module_count(version) // 8
            for level in LEVELS:
                with self.subTest(version, level=level):
                    check, blocks = row[level]
                    expected = []
                    for k in range(blocks):
                        longer = k >= blocks - words % blocks
                        expected.append(words // blocks + longer - check)
                    self.assert_integers(block_sizes(version, level), [int(one) for one in expected])
                    self.assert_integer(data_words(version, level), words - check * blocks)

    def test_sizes_and_sums(self):
        for version in VERSIONS:
            for level in LEVELS:
                sizes = block_sizes(version, level)
                self.assertEqual(sizes, sorted(sizes))
                self.assertLessEqual(sizes[-1] - sizes[0], 1)
                self.assertGreater(sizes[0], 0)
                self.assertEqual(data_words(version, level), sum(sizes))
                whole = sum(sizes) + len(sizes) * check_count(version, level)
                self.assertEqual(whole, total_words(version))

    def test_some_sizes(self):
        self.assert_integers(block_sizes(1, "L"), [19])
        self.assert_integers(block_sizes(1, "H"), [9])
        self.assert_integers(block_sizes(3, "Q"), [17, 17])
        self.assert_integers(block_sizes(7, "H"), [13] * 4 + [14])
        self.assert_integers(block_sizes(10, "M"), [43] * 4 + [44])
        self.assert_integers(block_sizes(40, "L"), [118] * 19 + [119] * 6)
        self.assert_integers(block_sizes(40, "H"), [15] * 20 + [16] * 61)
        found = [data_words(version, level) for version in (1, 40) for level in LEVELS]
        self.assertEqual(found, [19, 16, 13, 9, 2956, 2334, 1666, 1276])

    def test_a_changed_list_changes_nothing(self):
        found = block_sizes(5, "Q")
        found[0] = 0
        found.clear()
        self.assertEqual(block_sizes(5, "Q"), [15, 15, 16, 16])
        self.assertEqual(data_words(5, "Q"), 62)


class Alignment(Case):

    def test_the_example_of_the_interface(self):
        self.assertEqual(alignment(7), [6, 22, 38])

    def test_all_versions(self):
        self.assertEqual(list(alignment_rows()), list(VERSIONS))
        for version, row in alignment_rows().items():
            with self.subTest(version):
                self.assert_integers(alignment(version), row)

    def test_versions_1_and_32(self):
        self.assert_integers(alignment(1), [])
        self.assert_integers(alignment(2), [6, 18])
        self.assert_integers(alignment(32), [6, 34, 60, 86, 112, 138])

    def test_by_the_formula(self):
        for version in range(2, 41):
            c = version // 7 + 2
            last = 4 * version + 10
            step = 26 if version == 32 else (4 * version + 2 * c + 1) // (2 * c - 2) * 2
            expected = [6] + [last - step * k for k in range(c - 2, -1, -1)]
            self.assertEqual(alignment(version), expected)
            self.assertEqual(alignment(version), sorted(set(expected)))

    def test_a_changed_list_changes_nothing(self):
        for version in (1, 2, 32):
            expected = alignment_rows()[version]
            found = alignment(version)
            found.append(3)
            found[0] = 9
            self.assertEqual(alignment(version), expected)


class CountBits(Case):

    def test_every_version(self):
        for version in VERSIONS:
            column = 0 if version <= 9 else 1 if version <= 26 else 2
            with self.subTest(version):
                self.assert_integer(count_bits("numeric", version), (10, 12, 14)[column])
                self.assert_integer(count_bits("alphanumeric", version), (9, 11, 13)[column])
                self.assert_integer(count_bits("byte", version), (8, 16, 16)[column])

    def test_the_edges_of_the_columns(self):
        edges = (1, 9, 10, 26, 27, 40)
        self.assertEqual([count_bits("numeric", version) for version in edges], [10, 10, 12, 12, 14, 14])
        self.assertEqual([count_bits("alphanumeric", version) for version in edges], [9, 9, 11, 11, 13, 13])
        self.assertEqual([count_bits("byte", version) for version in edges], [8, 8, 16, 16, 16, 16])


if __name__ == "__main__":
    unittest.main()
