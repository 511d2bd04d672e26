"""Promises 12.1 to 12.3, and the interface of dotfield.sequence."""

import itertools
import random
import unittest

from dotfield.errors import (
    InvalidCount, InvalidFormat, InvalidMode, InvalidSequence, InvalidVersion, NotASymbol, TooDamaged, TooLong)
from dotfield.reading import read
from dotfield.sequence import encode_message, join, parity, read_message, split
from dotfield.symbol import Symbol, encode
from tests import plain
from tests.test_layout import plain_format_places


def copied(pairs):
    return [(header, list(part)) for header, part in pairs]


def plain_parity(text):
    """Bit by bit: whether an odd number of bytes has it."""
    return sum((sum(byte >> i & 1 for byte in text) % 2) << i for i in range(8))


def plain_split(text, count):
    size, longer = len(text) // count, len(text) % count
    lengths = [size + 1] * longer + [size] * (count - longer)
    parts = []
    for length in lengths:
        parts.append(text[:length])
        text = text[length:]
    whole = plain_parity([byte for part in parts for byte in part])
    return [((index, count, whole), part) for index, part in enumerate(parts)]


def some_text(chance, length):
    return [chance.randrange(256) for _ in range(length)]


class Case(unittest.TestCase):

    def assert_invalid(self, pairs, place):
        kept = copied(pairs)
        with self.assertRaises(InvalidSequence) as found:
            join(pairs)
        self.assertIs(type(found.exception), InvalidSequence)
        self.assertEqual([found.exception.place, found.exception.name], [place, "InvalidSequence"])
        self.assertEqual(pairs, kept)

    def assert_joined(self, pairs, text):
        kept = copied(pairs)
        found = join(pairs)
        self.assertEqual(pairs, kept)
        self.assertIs(type(found), list)
        self.assertEqual(found, text)


class Examples(Case):

    def test_those_of_the_interface(self):
        self.assertEqual(split([65, 66, 67], 2), [((0, 2, 64), [65, 66]), ((1, 2, 64), [67])])
        self.assert_joined([((1, 2, 64), [67]), ((0, 2, 64), [65, 66])], [65, 66, 67])
        self.assert_invalid([((0, 2, 0), []), ((0, 2, 0), [])], 1)


class Parity(Case):

    def test_the_empty_text(self):
        self.assertEqual(parity([]), 0)
        self.assertIs(type(parity([])), int)

    def test_one_and_two_bytes(self):
        for byte in range(256):
            self.assertEqual(parity([byte]), byte)
            self.assertEqual(parity([byte, byte]), 0)
            self.assertEqual(parity([byte, 255]), 255 - byte)

    def test_any_text(self):
        chance = random.Random(71)
        for _ in range(100):
            text = some_text(chance, chance.randrange(50))
            kept = list(text)
            self.assertEqual(parity(text), plain_parity(kept))
            self.assertEqual(text, kept)


class Split(Case):

    def assert_split(self, text, count):
        kept = list(text)
        found = split(text, count)
        self.assertEqual(text, kept)
        self.assertIs(type(found), list)
        self.assertEqual(found, plain_split(kept, count))
        for pair in found:
            self.assertEqual([type(pair), type(pair[0]), type(pair[1])], [tuple, tuple, list])
        self.assertEqual(len({id(part) for _, part in found} | {id(text)}), count + 1)

    def test_into_each_number_of_parts(self):
        chance = random.Random(72)
        for count in range(1, 17):
            for length in (0, 1, 2, 15, 16, 17, 31, 32, 33, 100):
                self.assert_split(some_text(chance, length), count)

    def test_into_one_part(self):
        self.assertEqual(split([1, 2, 3], 1), [((0, 1, 0), [1, 2, 3])])

    def test_the_empty_text(self):
        self.assertEqual(split([], 3), [((0, 3, 0), []), ((1, 3, 0), []), ((2, 3, 0), [])])

    def test_into_more_parts_than_bytes(self):
        found = split([7, 8], 4)
        self.assertEqual(found, [((0, 4, 15), [7]), ((1, 4, 15), [8]), ((2, 4, 15), []), ((3, 4, 15), [])])

    def test_the_first_parts_are_longer(self):
        found = [len(part) for _, part in split(list(range(14)), 4)]
        self.assertEqual(found, [4, 4, 3, 3])

    def test_the_parts_are_new(self):
        text = [1, 2, 3]
        for count in (1, 2):
            for _, part in split(text, count):
                part.append(9)
        self.assertEqual(text, [1, 2, 3])


class Join(Case):

    def test_in_any_order(self):
        text = list(b"in any order")
        for count in (1, 2, 3, 4):
            for pairs in itertools.permutations(split(text, count)):
                self.assert_joined(list(pairs), text)

    def test_each_number_of_parts(self):
        chance = random.Random(73)
        for count in range(1, 17):
            for length in (0, 1, 5, 16, 40):
                text = some_text(chance, length)
                pairs = split(text, count)
                chance.shuffle(pairs)
                self.assert_joined(pairs, text)

    def test_parts_that_split_would_not_make(self):
        self.assert_joined([((1, 3, 0), []), ((2, 3, 0), [5, 6, 3]), ((0, 3, 0), [])], [5, 6, 3])
        self.assert_joined([((1, 2, 3), [1]), ((0, 2, 3), [2])], [2, 1])

    def test_no_pairs(self):
        self.assert_invalid([], 0)

    def test_no_header(self):
        pairs = split([1, 2, 3, 4], 4)
        for place in range(4):
            wrong = list(pairs)
            wrong[place] = (None, pairs[place][1])
            self.assert_invalid(wrong, place)
        self.assert_invalid([(None, [])], 0)
        self.assert_invalid([(None, []), (None, [])], 0)

    def test_another_count(self):
        pairs = split([1, 2, 3, 4], 4)
        for place in range(1, 4):
            index, count, whole = pairs[place][0]
            wrong = list(pairs)
            wrong[place] = ((index, count + 1, whole), pairs[place][1])
            self.assert_invalid(wrong, place)

    def test_another_parity(self):
        pairs = split([1, 2, 3, 4], 4)
        for place in range(1, 4):
            index, count, whole = pairs[place][0]
            wrong = list(pairs)
            wrong[place] = ((index, count, whole ^ 1), pairs[place][1])
            self.assert_invalid(wrong, place)

    def test_the_first_pair_is_the_one_that_others_differ_from(self):
        pairs = split([1, 2, 3, 4], 4)
        for header in ((0, 5, 4), (0, 4, 5)):
            self.assert_invalid([(header, [1])] + pairs[1:], 1)

    def test_an_index_of_an_earlier_pair(self):
        pairs = split([1, 2, 3, 4], 4)
        for place in range(1, 4):
            for earlier in range(place):
                wrong = list(pairs)
                wrong[place] = pairs[earlier]
                self.assert_invalid(wrong, place)
        self.assert_invalid(pairs + [pairs[2]], 4)

    def test_two_faults_in_one_list(self):
        pairs = split([1, 2, 3, 4, 5], 5)
        faults = {
            "header": lambda pair: (None, pair[1]),
            "count": lambda pair: ((pair[0][0], 6, pair[0][2]), pair[1]),
            "parity": lambda pair: ((pair[0][0], 5, pair[0][2] ^ 128), pair[1]),
            "index": lambda pair: ((0, 5, pair[0][2]), pair[1]),
        }
        for first, second in itertools.product(faults.values(), repeat=2):
            for place in range(1, 4):
                for later in range(place + 1, 5):
                    wrong = list(pairs)
                    wrong[place] = first(pairs[place])
                    wrong[later] = second(pairs[later])
                    self.assert_invalid(wrong, place)

    def test_a_fault_of_a_pair_comes_before_those_of_all(self):
        # The number of pairs is wrong, too, and so is the parity of the parts.
        pairs = split([1, 2, 3, 4], 4)
        self.assert_invalid([pairs[0], pairs[0]], 1)
        self.assert_invalid([pairs[0], (None, [9])], 1)
        self.assert_invalid([pairs[0], pairs[2], ((1, 3, 4), [7])], 2)

    def test_a_part_missing(self):
        for count in (2, 3, 16):
            pairs = split(list(range(20)), count)
            for missing in range(count):
                self.assert_invalid(pairs[:missing] + pairs[missing + 1:], count - 1)
            self.assert_invalid(pairs[:1], 1)
        # An empty part is missing: the parity is right, the number is not.
        self.assert_invalid(split([1], 2)[:1], 1)
        self.assert_invalid(split([1], 2)[1:], 1)

    def test_more_pairs_than_the_count(self):
        self.assert_invalid([((0, 1, 0), []), ((1, 1, 0), [])], 2)

    def test_a_wrong_byte(self):
        for count in (1, 2, 5):
            pairs = split([10, 20, 30, 40, 50], count)
            for place in range(count):
                wrong = copied(pairs)
                wrong[place][1][0] ^= 4
                self.assert_invalid(wrong, count)
        self.assert_invalid([((0, 1, 1), [])], 1)
        self.assert_invalid([((0, 1, 0), [1])], 1)

    def test_the_text_is_new(self):
        pairs = [((0, 1, 3), [1, 2])]
        join(pairs).append(7)
        self.assertEqual(pairs, [((0, 1, 3), [1, 2])])


class EncodeMessage(Case):

    def test_each_part_is_a_symbol(self):
        text = list(b"A message of several symbols, 0123456789.")
        for count in (1, 2, 3, 7, 16):
            kept = list(text)
            found = encode_message(text, count)
            self.assertEqual(text, kept)
            self.assertIs(type(found), list)
            self.assertTrue(all(type(symbol) is Symbol for symbol in found))
            expected = [encode(part, header=header) for header, part in plain_split(text, count)]
            self.assertEqual(found, expected)

    def test_level_and_versions(self):
        text = list(b"level and versions")
        for level in plain.LEVELS:
            found = encode_message(text, 2, level=level, least=3, most=8)
            expected = [
                encode(part, level=level, least=3, most=8, header=header) for header, part in plain_split(text, 2)]
            self.assertEqual(found, expected)
            self.assertEqual([symbol.version for symbol in found], [3, 3])
        self.assertEqual([symbol.level for symbol in encode_message(text, 2)], ["M", "M"])

    def test_parts_of_different_versions(self):
        # 12 bytes and a header are the most that version 1-M has room for.
        found = encode_message([200] * 25, 2)
        self.assertEqual([symbol.version for symbol in found], [2, 1])

    def test_empty_parts(self):
        for text, count in (([], 1), ([], 16), ([1], 5)):
            found = encode_message(text, count)
            self.assertEqual([symbol.header for symbol in found], [header for header, _ in plain_split(text, count)])
            self.assertEqual(read_message([symbol.grid for symbol in found]), text)

    def test_too_long(self):
        for text, count, most in (([200] * 25, 2, 1), ([200] * 13, 1, 1), ([200] * 600, 2, 9)):
            with self.assertRaises(TooLong) as found:
                encode_message(text, count, most=most)
            self.assertIs(type(found.exception), TooLong)
            self.assertEqual(found.exception.place, 0)
        self.assertEqual(len(encode_message([200] * 24, 2, most=1)), 2)

    def test_only_text_and_count_are_passed_by_their_places(self):
        with self.assertRaises(TypeError):
            encode_message([], 1, "L")


class ReadMessage(Case):

    def assert_raised(self, error, place, grids):
        kept = [[list(row) for row in grid] for grid in grids]
        with self.assertRaises(error) as found:
            read_message(grids)
        self.assertIs(type(found.exception), error)
        self.assertEqual([found.exception.place, found.exception.name], [place, error.__name__])
        self.assertEqual(grids, kept)

    def grids(self, text, count):
        return [symbol.grid for symbol in encode_message(text, count, level="L")]

    def test_in_any_order(self):
        chance = random.Random(74)
        for count in (1, 2, 5, 16):
            text = some_text(chance, 60)
            grids = self.grids(text, count)
            for _ in range(3):
                chance.shuffle(grids)
                kept = [[list(row) for row in grid] for grid in grids]
                found = read_message(grids)
                self.assertEqual(grids, kept)
                self.assertIs(type(found), list)
                self.assertEqual(found, text)

    def test_no_grids(self):
        self.assert_raised(InvalidSequence, 0, [])

    def test_faults_of_the_list(self):
        grids = self.grids(list(b"four parts"), 4)
        other = self.grids(list(b"another message"), 4)
        self.assert_raised(InvalidSequence, 3, grids[:3])
        self.assert_raised(InvalidSequence, 2, grids[:2] + grids[1:])
        self.assert_raised(InvalidSequence, 1, [grids[0], other[1], grids[2], grids[3]])
        self.assert_raised(InvalidSequence, 3, grids[:3] + [encode(list(b"no header")).grid])
        self.assert_raised(InvalidSequence, 0, [encode(list(b"no header")).grid])
        self.assert_raised(InvalidSequence, 1, [encode([1], header=(0, 1, 2)).grid])

    def test_errors_of_reading_come_first(self):
        grids = self.grids(list(b"four parts"), 4)
        damaged = [list(row) for row in grids[1]]
        for row, column in plain.places_of(1)[::2]:
            damaged[row][column] ^= 1
        # The second grid is the first one again, and one is missing: that is of no account yet.
        self.assert_raised(TooDamaged, 0, [grids[0], grids[0], damaged])
        self.assert_raised(NotASymbol, 0, [grids[0], grids[0], []])

    def test_the_first_grid_that_has_one(self):
        grid = self.grids([1, 2], 1)[0]
        damaged = [list(row) for row in grid]
        for row, column in plain.places_of(1)[::2]:
            damaged[row][column] ^= 1
        unformatted = [list(row) for row in damaged]
        for first, second in zip(*plain_format_places(1)):
            for row, column in (first, second):
                unformatted[row][column] = 0
        self.assertEqual(read(grid).text, [1, 2])
        unsized = grid[:-1]
        unversioned = [[0] * 45 for _ in range(45)]
        faulty = {TooDamaged: damaged, NotASymbol: unsized, InvalidVersion: unversioned}
        with self.assertRaises(InvalidFormat):
            read(unformatted)
        faulty[InvalidFormat] = unformatted
        for first, second in itertools.permutations(faulty, 2):
            self.assert_raised(first, 0, [grid, faulty[first], faulty[second], grid])

    def test_the_places_of_these_errors(self):
        whole = self.grids([1, 2], 2)[0]
        data = [0b00110101, 0b01000000, 0] + [0] * 16
        self.assert_raised(
            InvalidCount, 4, [whole, plain.draw(plain.word_list(data, 1, "L"), 1, "L", 0)])
        data = [0b00110100, 0b01010000, 0b00001111] + [0] * 16
        self.assert_raised(
            InvalidMode, 20, [whole, plain.draw(plain.word_list(data, 1, "L"), 1, "L", 0)])

    def test_the_index_of_a_block(self):
        symbol = encode([1, 2, 3], level="Q", least=5, header=(0, 1, 0), mask=0)
        grid = [list(row) for row in symbol.grid]
        for index in range(2, 60, 4):
            for row, column in plain.places_of(5)[8 * index:8 * index + 8:3]:
                grid[row][column] ^= 1
        self.assert_raised(TooDamaged, 2, [symbol.grid, grid])


if __name__ == "__main__":
    unittest.main()
