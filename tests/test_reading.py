"""Promises 10.1 to 10.3, 00.3 over a Reading, and the interface of dotfield.reading."""

import itertools
import random
import unittest

from dotfield.errors import (
    InvalidCount, InvalidFormat, InvalidMode, InvalidVersion, NotASymbol, TooDamaged, Truncated)
from dotfield.header import read_header
from dotfield.reading import Reading, distribute, read, read_word, read_words
from dotfield.symbol import Symbol, encode, encode_segments
from tests import plain
from tests.test_layout import plain_format_places, plain_version_places, side_of
from tests.test_segments import best_by_trying, field, plain_bits, some_text
from tests.test_words import least_distance, plain_format_word, plain_version_word

LEVELS = plain.LEVELS
MASKS = plain.MASKS


def copy_of(grid):
    return [list(row) for row in grid]


def text_of(segments):
    return [byte for _, content in segments for byte in content]


def put(grid, places, word):
    for i, (row, column) in enumerate(places):
        grid[row][column] = word >> i & 1


def flip(grid, places):
    for row, column in places:
        grid[row][column] ^= 1


def grid_of_bits(bits, version, level, mask=0):
    """The grid whose data bits are these, with zeros behind them."""
    bits = bits + [0] * (plain.room(version, level) - len(bits))
    data = [int("".join(map(str, bits[start:start + 8])), 2) for start in range(0, len(bits), 8)]
    return plain.draw(plain.word_list(data, version, level), version, level, mask)


def word_indexes(version, level):
    """For each block, the indexes of its words among the words of the symbol."""
    sizes = plain.data_sizes(version, level)
    count = plain.check_count(version, level)
    owners = plain.in_turn([[block] * size for block, size in enumerate(sizes)])
    owners += plain.in_turn([[block] * count for block in range(len(sizes))])
    return [[i for i, owner in enumerate(owners) if owner == block] for block in range(len(sizes))]


def word_places(index, version):
    return plain.places_of(version)[8 * index:8 * index + 8]


def change_word(grid, index, version, chance):
    """Flip one to eight modules of a word."""
    flip(grid, chance.sample(word_places(index, version), chance.randrange(1, 9)))


def damage_blocks(grid, version, level, chance, many):
    """Change as many words of each block as the list says."""
    for indexes, words in zip(word_indexes(version, level), many, strict=True):
        for index in chance.sample(indexes, words):
            change_word(grid, index, version, chance)


def damage_functions(grid, version, chance):
    """Fill all function patterns but the two words with any modules."""
    for row, column in plain.plain_fixed(version):
        grid[row][column] = chance.randrange(2)


def damage_remaining(grid, version):
    flip(grid, plain.places_of(version)[8 * plain.total_words(version):])


class Case(unittest.TestCase):

    def assert_reading(self, grid, version, level, mask, header, segments, changed=None):
        kept = copy_of(grid)
        found = read(grid)
        self.assertEqual(grid, kept)
        self.assertIs(type(found), Reading)
        self.assertEqual(
            [found.version, found.level, found.mask, found.header], [version, level, mask, header])
        self.assertIs(type(found.header), type(header))
        self.assertIs(type(found.segments), list)
        self.assertEqual(found.segments, segments)
        self.assertTrue(all(type(segment) is tuple and type(segment[1]) is list for segment in found.segments))
        self.assertIs(type(found.text), list)
        self.assertEqual(found.text, text_of(segments))
        self.assertIs(type(found.changed), list)
        blocks = len(plain.block_lengths(version, level))
        self.assertEqual(found.changed, [0] * blocks if changed is None else changed)

    def assert_read_back(self, symbol):
        self.assertIs(type(symbol), Symbol)
        self.assert_reading(
            symbol.grid, symbol.version, symbol.level, symbol.mask, symbol.header, symbol.segments)

    def assert_raised(self, error, place, grid, call=read):
        kept = copy_of(grid)
        with self.assertRaises(error) as found:
            call(grid)
        self.assertIs(type(found.exception), error)
        self.assertEqual([found.exception.place, found.exception.name], [place, error.__name__])
        self.assertEqual(grid, kept)


class Examples(Case):

    def test_those_of_the_interface(self):
        grid = encode([72, 105], level="H", mask=5).grid
        grid[0][0] = 0
        found = read(grid)
        self.assertEqual(
            [found.version, found.level, found.mask, found.text, found.changed],
            [1, "H", 5, [72, 105], [0]])
        self.assert_raised(NotASymbol, 0, [[0, 1], [1, 0]])
        self.assertEqual([len(block) for block in distribute(list(range(134)), 5, "Q")], [33, 33, 34, 34])


class Symbols(Case):

    def test_each_level_and_mask(self):
        text = list(b"Read: 1234567890, ABC/DEF.")
        for level in LEVELS:
            for mask in MASKS:
                for least in (1, 6, 7, 10):
                    self.assert_read_back(encode(text, level=level, mask=mask, least=least))

    def test_each_version(self):
        chance = random.Random(31)
        for version in plain.VERSIONS:
            text = some_text(chance, chance.randrange(0, 8))
            found = encode(text, level=chance.choice(LEVELS), least=version, mask=chance.choice(MASKS))
            self.assertEqual(found.version, version)
            self.assert_read_back(found)

    def test_grids_that_are_drawn_plainly(self):
        chance = random.Random(32)
        for version, level in ((1, "L"), (3, "Q"), (5, "Q"), (6, "M"), (7, "H"), (10, "M"), (27, "L")):
            segments = best_by_trying(some_text(chance, 12), version)
            for header in (None, (2, 5, 99)):
                for mask in (0, 7):
                    self.assert_reading(
                        plain.grid_of(segments, version, level, mask, header), version, level, mask, header, segments)

    def test_several_blocks_of_equal_and_of_different_length(self):
        chance = random.Random(33)
        for version, level in ((4, "M"), (5, "Q"), (8, "H"), (14, "M"), (40, "H")):
            size = plain.room(version, level) // 8
            text = [chance.randrange(256) for _ in range(min(size - 8, 1200))]
            found = encode(text, level=level, least=version, mask=3)
            self.assertEqual(found.version, version)
            self.assert_read_back(found)

    def test_headers(self):
        for header in (None, (0, 1, 0), (0, 16, 255), (15, 16, 255), (7, 8, 129), (3, 4, 1)):
            for text in ([], [49], list(b"some text")):
                self.assert_read_back(encode(text, header=header, level="L", mask=1))

    def test_all_indexes_and_counts(self):
        for count in range(1, 17):
            for index in range(count):
                header = (index, count, 16 * index + count - 1)
                grid = grid_of_bits(plain.header_field(header), 1, "L")
                self.assert_reading(grid, 1, "L", 0, header, [])

    def test_the_empty_text(self):
        for level in LEVELS:
            for least in (1, 7):
                found = encode([], level=level, least=least)
                self.assertEqual(read(found.grid).text, [])
                self.assert_read_back(found)

    def test_segments_that_are_not_the_best(self):
        segments = [("byte", [49]), ("numeric", [50]), ("alphanumeric", [51, 52]), ("byte", [53]), ("byte", [54])]
        self.assert_read_back(encode_segments(segments, mask=2))
        self.assert_read_back(encode_segments([("byte", [255] * 255)] * 3, mask=2, header=(1, 2, 3)))

    def test_data_that_fill_the_words(self):
        # Without an end, or with fewer than four bits left for it.
        for digits in range(1, 30):
            for letters in range(1, 12):
                segments = [("numeric", [57] * digits), ("alphanumeric", [90] * letters)]
                left = 72 - len(plain_bits(segments, 1))
                if 0 <= left <= 12:
                    self.assert_reading(plain.grid_of(segments, 1, "H", 6), 1, "H", 6, None, segments)

    def test_what_follows_after_the_end_is_not_read(self):
        bits = plain_bits([("numeric", [49])], 1) + [0] * 4
        grid = grid_of_bits(bits + [1] * (72 - len(bits)), 1, "H")
        self.assert_reading(grid, 1, "H", 0, None, [("numeric", [49])])
        grid = grid_of_bits([0] * 4 + [1] * 68, 1, "H")
        self.assert_reading(grid, 1, "H", 0, None, [])

    def test_a_header_mark_behind_a_segment_is_a_mode(self):
        bits = plain_bits([("numeric", [49])], 1)
        self.assert_raised(InvalidMode, len(bits), grid_of_bits(bits + [0, 0, 1, 1], 1, "L"))

    def test_what_is_returned_is_new(self):
        symbol = encode(list(b"abc123456"), header=(0, 2, 5))
        expected = read(symbol.grid)
        found = read(symbol.grid)
        found.segments[0][1].clear()
        found.segments.clear()
        found.text.clear()
        found.changed.clear()
        self.assertEqual(read(symbol.grid), expected)
        self.assertEqual(symbol, encode(list(b"abc123456"), header=(0, 2, 5)))

    def test_a_text_that_is_changed_leaves_the_segments(self):
        found = read(encode([200, 201]).grid)
        found.text.append(1)
        self.assertEqual(found.segments, [("byte", [200, 201])])


class Sizes(Case):

    def test_no_rows(self):
        self.assert_raised(NotASymbol, 0, [])

    def test_sides_that_no_version_has(self):
        for side in (*range(1, 21), 22, 23, 24, 26, 44, 46, 176, 178, 179, 180, 181, 185, 197):
            self.assert_raised(NotASymbol, 0, [[0] * side for _ in range(side)])

    def test_rows_of_unequal_length(self):
        for version in (1, 2, 7):
            grid = encode([1], least=version, mask=0).grid
            for row in (0, 5, len(grid) - 1):
                for length in (0, 1, len(grid) - 1, len(grid) + 1, len(grid) + 4):
                    wrong = copy_of(grid)
                    wrong[row] = [0] * length
                    self.assert_raised(NotASymbol, 0, wrong)

    def test_a_row_too_few_and_too_many(self):
        for version in (1, 7):
            grid = encode([1], least=version, mask=0).grid
            self.assert_raised(NotASymbol, 0, grid[:-1])
            self.assert_raised(NotASymbol, 0, grid[1:])
            self.assert_raised(NotASymbol, 0, grid + [list(grid[0])])
            self.assert_raised(NotASymbol, 0, grid[:-4])
            self.assert_raised(NotASymbol, 0, grid + [list(row) for row in grid[:4]])

    def test_before_a_wrong_version_word(self):
        grid = encode([1], least=7, mask=0).grid
        for copy in plain_version_places(7):
            put(grid, copy, 0)
        self.assert_raised(InvalidVersion, 0, grid)
        grid[44].pop()
        self.assert_raised(NotASymbol, 0, grid)


class VersionWords(Case):

    def grid(self, version, first, second):
        """A grid with other version words."""
        grid = encode([65, 66], level="Q", least=version, mask=1).grid
        for copy, word in zip(plain_version_places(version), (first, second), strict=True):
            put(grid, copy, word)
        return grid

    def test_up_to_three_wrong_bits_in_one_copy(self):
        chance = random.Random(34)
        for version in (7, 8, 19, 40):
            word = plain_version_word(version)
            for many in range(4) if version < 40 else (3,):
                near = word
                for place in chance.sample(range(18), many):
                    near ^= 1 << place
                for far in (word ^ 0x3FFFF, 0, near, word ^ 15):
                    for pair in ((near, far), (far, near)):
                        self.assertEqual(read(self.grid(version, *pair)).text, [65, 66])

    def test_more_wrong_bits_in_both_copies(self):
        for version in (7, 21, 40):
            word = plain_version_word(version)
            for first in (15, 0b1001000000010001, 0x3FFFF):
                for second in (0b11110000, 0x3FFFF):
                    self.assert_raised(InvalidVersion, 0, self.grid(version, word ^ first, word ^ second))

    def test_the_word_of_another_version(self):
        other = plain_version_word(8)
        self.assert_raised(InvalidVersion, 0, self.grid(7, other, other))
        self.assertEqual(read(self.grid(7, other, plain_version_word(7))).version, 7)

    def test_before_a_wrong_format_word(self):
        grid = self.grid(7, 0, 0)
        far = next(word for word in range(1 << 15) if least_distance(word) > 3)
        for copy in plain_format_places(7):
            put(grid, copy, far)
        self.assert_raised(InvalidVersion, 0, grid)
        put(grid, plain_version_places(7)[1], plain_version_word(7))
        self.assert_raised(InvalidFormat, 0, grid)

    def test_below_version_7_there_is_none(self):
        for version in range(1, 7):
            self.assertEqual(read(encode([7], least=version, mask=0).grid).version, version)


class FormatWords(Case):

    def setUp(self):
        chance = random.Random(35)
        self.far = [word for word in (chance.randrange(1 << 15) for _ in range(300)) if least_distance(word) > 3]

    def grid(self, version, first, second):
        grid = encode([65, 66], level="Q", least=version, mask=1).grid
        for copy, word in zip(plain_format_places(version), (first, second), strict=True):
            put(grid, copy, word)
        return grid

    def test_up_to_three_wrong_bits(self):
        chance = random.Random(36)
        word = plain_format_word("Q", 1)
        for version in (1, 7):
            for many in range(4):
                for other in range(4):
                    first = second = word
                    for place in chance.sample(range(15), many):
                        first ^= 1 << place
                    for place in chance.sample(range(15), other):
                        second ^= 1 << place
                    for pair in ((first, second), (first, self.far[0]), (self.far[1], second)):
                        found = read(self.grid(version, *pair))
                        self.assertEqual([found.level, found.mask, found.text], ["Q", 1, [65, 66]])

    def test_no_nearest_format(self):
        for version in (1, 2, 7):
            for first, second in zip(self.far[::2], self.far[1::2]):
                self.assert_raised(InvalidFormat, 0, self.grid(version, first, second))

    def test_of_two_formats_that_of_the_first_copy(self):
        # Both copies are whole, but only the first one is that of the grid.
        found = read(self.grid(1, plain_format_word("Q", 1), plain_format_word("L", 6)))
        self.assertEqual([found.level, found.mask], ["Q", 1])

    def test_before_a_damaged_block(self):
        grid = self.grid(1, self.far[0], self.far[1])
        flip(grid, plain.places_of(1))
        self.assert_raised(InvalidFormat, 0, grid)


class Blocks(Case):

    def test_up_to_half_the_check_words_of_each_block(self):
        chance = random.Random(37)
        for version, level in ((1, "L"), (1, "M"), (1, "Q"), (1, "H"), (3, "Q"), (5, "Q"), (5, "H"), (7, "H"), (10, "L"),
                               (20, "M"), (40, "L")):
            found = encode(list(b"words of blocks"), level=level, least=version, mask=4)
            if found.version != version:
                found = encode([49, 50], level=level, least=version, most=version, mask=4)
            most = plain.check_count(version, level) // 2
            blocks = len(plain.block_lengths(version, level))
            for _ in range(3):
                many = [chance.randrange(most + 1) for _ in range(blocks)]
                many[chance.randrange(blocks)] = most
                grid = copy_of(found.grid)
                damage_blocks(grid, version, level, chance, many)
                self.assert_reading(grid, version, level, 4, None, found.segments, many)

    def test_all_words_of_the_first_block_in_turn(self):
        found = encode([1, 2, 3], level="Q", least=3, mask=0)
        for block, indexes in enumerate(word_indexes(3, "Q")):
            for index in indexes:
                grid = copy_of(found.grid)
                flip(grid, word_places(index, 3))
                expected = [int(block == 0), int(block == 1)]
                self.assert_reading(grid, 3, "Q", 0, None, found.segments, expected)

    def test_one_word_too_many_of_an_odd_number_of_check_words(self):
        # With an odd number, no codeword is near enough to half of them and one changed words more.
        chance = random.Random(38)
        for version, level in ((1, "L"), (1, "Q"), (1, "H"), (3, "L")):
            found = encode([49, 50], level=level, least=version, mask=0)
            most = plain.check_count(version, level) // 2
            for _ in range(10):
                grid = copy_of(found.grid)
                damage_blocks(grid, version, level, chance, [most + 1])
                self.assert_raised(TooDamaged, 0, grid)

    def test_the_index_of_the_first_block_that_fails(self):
        chance = random.Random(39)
        for version, level in ((5, "Q"), (7, "H"), (14, "H")):
            found = encode([49, 50], level=level, least=version, mask=0)
            most = plain.check_count(version, level) // 2
            blocks = len(plain.block_lengths(version, level))
            for first in range(blocks):
                many = [most] * first + [most + 5] + [chance.choice((0, most, most + 5))] * (blocks - first - 1)
                grid = copy_of(found.grid)
                damage_blocks(grid, version, level, chance, many)
                self.assert_raised(TooDamaged, first, grid)

    def test_before_wrong_data(self):
        # Each block but the last is whole, and begins with a header whose index is too great.
        chance = random.Random(40)
        bits = [0, 0, 1, 1] + field(4, 3) + field(4, 1) + field(8, 0)
        grid = grid_of_bits(bits, 5, "Q")
        self.assert_raised(InvalidCount, 4, grid)
        damage_blocks(grid, 5, "Q", chance, [0, 0, 0, 14])
        self.assert_raised(TooDamaged, 3, grid)

    def test_all_wrong(self):
        for version in (1, 5):
            grid = encode([49], level="Q", least=version, mask=0).grid
            words = plain.places_of(version)
            flip(grid, words[::3])
            self.assert_raised(TooDamaged, 0, grid)


class Headers(Case):

    def header(self, index, count):
        return [0, 0, 1, 1] + field(4, index) + field(4, count - 1) + field(8, 77)

    def test_an_index_that_is_too_great(self):
        for version, level in ((1, "H"), (5, "Q"), (7, "L")):
            for index, count in itertools.product(range(16), range(1, 17)):
                if index < count or version > 1 and (index + count) % 5:
                    continue
                self.assert_raised(InvalidCount, 4, grid_of_bits(self.header(index, count), version, level))

    def test_before_a_wrong_segment(self):
        self.assert_raised(InvalidCount, 4, grid_of_bits(self.header(2, 2) + [1, 1, 1, 1], 1, "L"))
        self.assert_raised(InvalidMode, 20, grid_of_bits(self.header(1, 2) + [1, 1, 1, 1], 1, "L"))

    def test_a_second_header_is_a_wrong_mode(self):
        bits = self.header(0, 1) + self.header(0, 1)
        self.assert_raised(InvalidMode, 20, grid_of_bits(bits, 1, "L"))

    def test_fewer_than_20_bits(self):
        # Such few bits cannot come from a symbol.
        self.assertEqual(read_header(self.header(3, 4)), (3, 4, 77))
        for many in range(4, 20):
            with self.assertRaises(Truncated) as found:
                read_header(self.header(5, 2)[:many])
            self.assertIs(type(found.exception), Truncated)
            self.assertEqual(found.exception.place, many)
        for many in range(4):
            self.assertIsNone(read_header(self.header(3, 4)[:many]))

    def test_no_header(self):
        for number in range(16):
            if number != 3:
                self.assertIsNone(read_header(field(4, number)))
                self.assertIsNone(read_header(field(4, number) + [1] * 30))


class Data(Case):
    """The errors of point 06.4, whose places count from the first data bit."""

    def setUp(self):
        self.before = [[], plain.header_field((1, 3, 7))]
        self.segment = plain_bits([("numeric", [49, 50]), ("byte", [51])], 1)

    def starts(self):
        for header in self.before:
            yield header
            yield header + self.segment

    def test_wrong_modes(self):
        for start in self.starts():
            for mode in (3, 5, 6, 7, 8, 9, 10, 11, 12, 13, 14, 15):
                if start or mode != 3:
                    self.assert_raised(InvalidMode, len(start), grid_of_bits(start + field(4, mode), 1, "L"))

    def test_a_count_of_0(self):
        for start in self.starts():
            for mode in (1, 2, 4):
                self.assert_raised(InvalidCount, len(start) + 4, grid_of_bits(start + field(4, mode), 1, "L"))

    def test_numbers_that_are_too_large(self):
        groups = (
            (1, 10, 3, 10, 1000), (1, 10, 2, 7, 100), (1, 10, 1, 4, 10), (2, 9, 2, 11, 2025), (2, 9, 1, 6, 45))
        for start in self.starts():
            for mode, width, count, bits, number in groups:
                segment = field(4, mode) + field(width, count)
                place = len(start) + len(segment)
                self.assert_raised(InvalidCount, place, grid_of_bits(start + segment + field(bits, number), 1, "L"))
                found = read(grid_of_bits(start + segment + field(bits, number - 1), 1, "L"))
                self.assertEqual(len(found.segments[-1][1]), count)

    def test_fields_that_are_not_complete(self):
        for start in self.starts():
            for mode, width in ((1, 10), (2, 9), (4, 8)):
                segment = field(4, mode) + [1] * width
                grid = grid_of_bits(start + segment, 1, "L")
                self.assert_raised(Truncated, 152, grid)

    def test_a_count_field_that_is_not_complete(self):
        # 72 bits, of which the last 10 are a mode and a part of its count.
        bits = plain_bits([("byte", [1, 2, 3, 4]), ("numeric", [49])], 1)
        self.assertEqual(len(bits), 44 + 18)
        for mode in (1, 2, 4):
            self.assert_raised(Truncated, 72, grid_of_bits(bits + field(4, mode) + [0] * 6, 1, "H"))

    def test_several_blocks(self):
        for header in self.before:
            segment = plain_bits([("byte", list(range(40)))], 5)
            start = header + segment
            self.assert_raised(InvalidMode, len(start), grid_of_bits(start + [1, 1, 0, 0], 5, "Q"))
            self.assert_raised(Truncated, 8 * 62, grid_of_bits(start + [0, 1, 0, 0] + [1] * 8, 5, "Q"))


class ReadWord(unittest.TestCase):

    def test_bit_i_is_the_module_at_the_place_i(self):
        grid = [[1, 0, 1], [0, 0, 0], [0, 1, 1]]
        places = [(0, 0), (0, 1), (0, 2), (2, 1), (1, 0)]
        self.assertEqual(read_word(grid, places), 0b01101)
        self.assertEqual(read_word(grid, places[::-1]), 0b10110)
        self.assertEqual(read_word(grid, []), 0)
        for i, place in enumerate(places):
            self.assertEqual(read_word(grid, [place]), grid[place[0]][place[1]])
        self.assertIs(type(read_word(grid, places)), int)

    def test_the_words_of_a_symbol(self):
        grid = encode([1], level="H", least=7, mask=6).grid
        kept = copy_of(grid)
        self.assertEqual([read_word(grid, copy) for copy in plain_format_places(7)], [3340, 3340])
        self.assertEqual([read_word(grid, copy) for copy in plain_version_places(7)], [0x07C94, 0x07C94])
        self.assertEqual(grid, kept)


class ReadWords(unittest.TestCase):

    def test_the_words_that_were_drawn(self):
        chance = random.Random(41)
        for version in (1, 2, 6, 7, 14, 21, 40):
            words = [chance.randrange(256) for _ in range(plain.total_words(version))]
            for mask in MASKS:
                grid = plain.draw(words, version, "L", mask)
                kept = copy_of(grid)
                found = read_words(grid, version, mask)
                self.assertEqual(grid, kept)
                self.assertIs(type(found), list)
                self.assertEqual(found, words)
                self.assertTrue(all(type(word) is int for word in found))

    def test_the_mask_is_the_one_that_is_given(self):
        words = list(range(26))
        grid = plain.draw(words, 1, "L", 2)
        for mask in MASKS:
            self.assertEqual(read_words(grid, 1, mask) == words, mask == 2)

    def test_the_places_that_remain_are_ignored(self):
        for version in (2, 14, 21):
            words = [255] * plain.total_words(version)
            grid = plain.draw(words, version, "L", 0)
            damage_remaining(grid, version)
            self.assertEqual(read_words(grid, version, 0), words)

    def test_the_function_patterns_are_not_looked_at(self):
        chance = random.Random(42)
        words = list(range(196))
        grid = plain.draw(words, 7, "M", 5)
        damage_functions(grid, 7, chance)
        for copy in (*plain_format_places(7), *plain_version_places(7)):
            put(grid, copy, chance.randrange(1 << 18))
        self.assertEqual(read_words(grid, 7, 5), words)


class Distribute(unittest.TestCase):

    def assert_blocks(self, words, version, level):
        kept = list(words)
        found = distribute(words, version, level)
        self.assertEqual(words, kept)
        self.assertIs(type(found), list)
        self.assertTrue(all(type(block) is list for block in found))
        expected = [[words[i] for i in indexes] for indexes in word_indexes(version, level)]
        self.assertEqual(found, expected)

    def test_one_block(self):
        words = list(range(26))
        found = distribute(words, 1, "L")
        self.assertEqual(found, [words])
        self.assertIsNot(found[0], words)

    def test_blocks_of_equal_length(self):
        # Version 4-M: 2 blocks with 32 data words and 18 check words each.
        found = distribute(list(range(100)), 4, "M")
        self.assertEqual(found, [list(range(0, 100, 2)), list(range(1, 100, 2))])

    def test_blocks_of_different_length(self):
        # Version 5-Q: 2 blocks with 15 data words, then 2 with 16, and 18 check words each.
        found = distribute(list(range(134)), 5, "Q")
        expected = [
            list(range(0, 60, 4)) + list(range(62, 134, 4)),
            list(range(1, 60, 4)) + list(range(63, 134, 4)),
            list(range(2, 60, 4)) + [60] + list(range(64, 134, 4)),
            list(range(3, 60, 4)) + [61] + list(range(65, 134, 4)),
        ]
        self.assertEqual(found, expected)

    def test_every_version_and_level(self):
        for version in plain.VERSIONS:
            for level in LEVELS:
                words = [i % 256 for i in range(plain.total_words(version))]
                self.assert_blocks(words, version, level)
                lengths = [len(block) for block in distribute(words, version, level)]
                self.assertEqual(lengths, plain.block_lengths(version, level))

    def test_it_undoes_the_words_of_a_symbol(self):
        chance = random.Random(43)
        for version, level in ((1, "M"), (3, "H"), (5, "H"), (13, "Q"), (40, "L")):
            data = [chance.randrange(256) for _ in range(plain.room(version, level) // 8)]
            blocks = [part + checks for part, checks in plain.blocks_of(data, version, level)]
            self.assertEqual(distribute(plain.word_list(data, version, level), version, level), blocks)


class Other:
    """A value of another class with the same attributes."""

    def __init__(self, reading):
        self.__dict__.update(reading.__dict__)


class Readings(unittest.TestCase):

    def arguments(self):
        return {
            "version": 1, "level": "M", "mask": 2, "header": (0, 2, 7),
            "segments": [("byte", [1, 2])], "text": [1, 2], "changed": [0],
        }

    def test_the_attributes(self):
        found = Reading(3, "Q", 5, None, [("numeric", [49])], [49], [0, 1])
        self.assertEqual(
            [found.version, found.level, found.mask, found.header, found.segments, found.text, found.changed],
            [3, "Q", 5, None, [("numeric", [49])], [49], [0, 1]])
        self.assertEqual(vars(Reading(**self.arguments())), self.arguments())

    def test_equal_ones(self):
        self.assertIs(Reading(**self.arguments()) == Reading(**self.arguments()), True)
        self.assertIs(Reading(**self.arguments()) != Reading(**self.arguments()), False)

    def test_each_attribute_counts(self):
        others = {
            "version": 2, "level": "L", "mask": 3, "header": None,
            "segments": [("byte", [1, 3])], "text": [1, 3], "changed": [1],
        }
        for name, value in others.items():
            changed = self.arguments() | {name: value}
            self.assertIs(Reading(**self.arguments()) == Reading(**changed), False)
            self.assertIs(Reading(**self.arguments()) != Reading(**changed), True)
            self.assertIs(Reading(**changed) == Reading(**self.arguments()), False)
        for name, value in (("segments", []), ("text", []), ("changed", []), ("changed", [0, 0]),
                            ("header", (1, 2, 7)), ("header", (0, 3, 7)), ("header", (0, 2, 8))):
            self.assertIs(Reading(**self.arguments()) == Reading(**self.arguments() | {name: value}), False)

    def test_values_of_other_classes(self):
        reading = Reading(**self.arguments())
        symbol = Symbol(1, "M", 2, (0, 2, 7), [("byte", [1, 2])], [[1]])
        for other in (None, 0, "Reading", [], (), {}, self.arguments(), tuple(self.arguments().values()),
                      Other(reading), symbol, TooDamaged(0), object(), Reading, [1, 2]):
            self.assertIs(reading == other, False)
            self.assertIs(reading != other, True)
            self.assertIs(other == reading, False)


if __name__ == "__main__":
    unittest.main()
