"""Promises 09.1 to 09.6, 00.3 over a Symbol, and the interface of dotfield.symbol."""

import random
import unittest

from dotfield.errors import DotfieldError, TooLong
from dotfield.segments import best_segments
from dotfield.symbol import Symbol, data_list, draw, encode, encode_segments, word_list
from tests import plain
from tests.test_layout import side_of
from tests.test_masks import plain_penalty
from tests.test_reed import plain_is_codeword
from tests.test_segments import best_by_trying, plain_bits, plain_cost, some_text

LEVELS = plain.LEVELS
MASKS = plain.MASKS
VERSIONS = plain.VERSIONS


def copied(segments):
    return [(mode, list(content)) for mode, content in segments]


def some_words(chance, many):
    return [chance.randrange(256) for _ in range(many)]


def segments_with_room_left(version, level, left, header=None):
    """Segments that leave just so many bits of the symbol's room."""
    size = plain.room(version, level) - left
    for letters in range(0, 12):
        for digits in range(0, 40):
            segments = [("alphanumeric", [65] * letters)] if letters else []
            segments += [("numeric", [55] * digits)] if digits else []
            bits = len(plain_bits(segments, version)) + (0 if header is None else 20)
            rest = size - bits - len(plain_bits([("byte", [200])], version)) + 8
            if rest >= 8 and rest % 8 == 0:
                return segments + [("byte", [200] * (rest // 8))]
    raise AssertionError("no such segments")


class Case(unittest.TestCase):

    def assert_words(self, found, expected):
        self.assertIs(type(found), list)
        self.assertEqual(found, expected)
        self.assertTrue(all(type(word) is int for word in found))

    def assert_symbol(self, found, version, level, mask, header, segments):
        self.assertIs(type(found), Symbol)
        self.assertEqual(
            [found.version, found.level, found.mask, found.header], [version, level, mask, header])
        self.assertEqual(found.segments, segments)
        self.assertEqual(found.grid, plain.grid_of(segments, version, level, mask, header))
        self.assertTrue(all(type(one) is int for row in found.grid for one in row))

    def assert_too_long(self, call, given, **keywords):
        with self.assertRaises(TooLong) as found:
            call(given, **keywords)
        self.assertIs(type(found.exception), TooLong)
        self.assertEqual([found.exception.place, found.exception.name], [0, "TooLong"])


class Examples(unittest.TestCase):

    def test_those_of_the_interface(self):
        self.assertEqual(
            data_list([("numeric", [49, 50])], 1, "H"),
            [16, 8, 96, 0, 236, 17, 236, 17, 236])
        self.assertEqual(len(encode([72, 105], level="Q", mask=3).grid), 21)

    def test_the_example_of_the_standard(self):
        # "01234567" in version 1-M.
        data = data_list([("numeric", list(b"01234567"))], 1, "M")
        self.assertEqual(data, [16, 32, 12, 86, 97, 128, 236, 17, 236, 17, 236, 17, 236, 17, 236, 17])
        self.assertEqual(word_list(data, 1, "M")[16:], [165, 36, 212, 193, 237, 54, 199, 135, 44, 85])

    def test_a_whole_grid_as_a_picture(self):
        picture = """
XXXXXXX    X  XXXXXXX
X     X XX  X X     X
X XXX X  X XX X XXX X
X XXX X XXXXX X XXX X
X XXX X XX X  X XXX X
X     X  X  X X     X
XXXXXXX X X X XXXXXXX
        XX XX        
 X XXXX XX  XXX XX X 
X XXXX X    XXXX XXX 
  X X XX   X  XX     
X XX X   X XX   XX   
XX XXXXXXXX XXX XXXXX
        X   X  X X   
XXXXXXX  XX  XX  XXXX
X     X X X  X  X XXX
X XXX X XX X  X   XXX
X XXX X X XXX   X X  
X XXX X  X    X    XX
X     X XXX  XXX  XX 
XXXXXXX  X X       X 
"""
        expected = [[int(one == "X") for one in line] for line in picture.strip("\n").split("\n")]
        found = encode(list(b"HELLO WORLD"), level="Q")
        self.assertEqual([found.version, found.mask], [1, 6])
        self.assertEqual(found.grid, expected)


class Versions(Case):

    def test_the_last_text_that_fits_and_the_first_that_does_not(self):
        # Such bytes have no mode but that of any bytes, so there is one segment.
        for version in VERSIONS:
            # All levels where count fields become longer, otherwise one of them.
            for level in LEVELS if version in (1, 9, 10, 26, 27) else LEVELS[version % 4]:
                head = 12 if version <= 9 else 20
                longest = (plain.room(version, level) - head) // 8
                with self.subTest(version, level=level):
                    if longest < 2047:
                        text = [200 + i % 50 for i in range(longest)]
                        self.assertEqual(encode(text, level=level, mask=0).version, version)
                        if version < 40:
                            self.assertEqual(encode(text + [255], level=level, mask=0).version, version + 1)
                        else:
                            self.assert_too_long(encode, text + [255], level=level)

    def test_many_lengths_and_bounds(self):
        chance = random.Random(21)
        for _ in range(100):
            length = chance.choice((chance.randrange(260), chance.randrange(2100)))
            level = chance.choice(LEVELS)
            least = chance.randrange(1, 41)
            most = chance.randrange(least, 41)
            header = chance.choice((None, (0, 1, 0)))
            expected = plain_byte_version(length, level, least, most, header)
            keywords = {"level": level, "least": least, "most": most, "mask": 1, "header": header}
            if expected is None:
                self.assert_too_long(encode, [255] * length, **keywords)
            else:
                self.assertEqual(encode([255] * length, **keywords).version, expected)

    def test_texts_of_several_segments_against_a_plain_search(self):
        chance = random.Random(22)
        for _ in range(25):
            text = some_text(chance, chance.randrange(1, 110))
            level = chance.choice(LEVELS)
            header = chance.choice((None, (3, 16, 77)))
            found = encode(text, level=level, mask=2, header=header)
            self.assertEqual(found.version, plain.version_of(text, level, 1, 40, header))
            self.assertEqual(found.segments, best_by_trying(text, found.version))

    def test_the_border_from_9_to_10(self):
        for level in LEVELS:
            longest = (plain.room(9, level) - 12) // 8
            for length in (longest, longest + 1):
                found = encode([200] * length, level=level, mask=0)
                self.assertEqual(found.version, 9 if length == longest else 10)
        # The best segments are those of the version that is taken: here they differ in 9 and in 10.
        text = list(b"ab123456cdef")
        self.assertNotEqual(best_segments(text, 9), best_segments(text, 10))
        for least in (1, 8, 9, 10, 11, 26, 27, 40):
            found = encode(text, least=least, mask=0)
            self.assertEqual([found.version, found.segments], [least, best_by_trying(text, least)])

    def test_segments_that_differ_at_both_borders(self):
        chance = random.Random(23)
        checked = {9: 0, 26: 0}
        for border in checked:
            while checked[border] < 3:
                text = some_text(chance, 60)
                if best_by_trying(text, border) != best_by_trying(text, border + 1):
                    checked[border] += 1
                    for version in (border, border + 1):
                        found = encode(text, least=version, mask=0)
                        self.assertEqual(
                            [found.version, found.segments], [version, best_by_trying(text, version)])

    def test_a_choice_that_goes_on_behind_a_border(self):
        # Below the border it pays to write the digits on their own, behind it no longer.
        for version, part, many in ((10, b"ab123456cdef", 9), (27, b"ab12345678cdef", 43)):
            text = list(part) * many
            self.assertGreater(len(best_segments(text, version - 1)), 1)
            for least in (1, version - 1, version):
                found = encode(text, level="H", least=least, mask=0)
                self.assertEqual([found.version, found.segments], [version, [("byte", text)]])

    def test_digits_at_the_borders(self):
        for version, level in ((9, "H"), (10, "H"), (26, "H"), (26, "Q"), (27, "H"), (27, "Q")):
            longest = max(n for n in range(1, 2048) if plain_cost("numeric", n, version) <= plain.room(version, level))
            for digits in (longest, longest + 1):
                found = encode([57] * digits, level=level, mask=0)
                self.assertEqual(found.version, version if digits == longest else version + 1)
                self.assertEqual(found.segments, [("numeric", [57] * digits)])

    def test_256_bytes_need_version_10(self):
        self.assertLess(encode([48] * 255, mask=0).version, 10)
        self.assertEqual(encode([48] * 256, mask=0).version, 10)
        self.assertEqual(encode([48] * 256, level="L", least=3, most=10, mask=0).version, 10)
        self.assert_too_long(encode, [48] * 256, most=9)
        self.assert_too_long(encode, [48] * 256, level="L", least=9, most=9)
        self.assertEqual(encode([48] * 255, level="L", most=9, mask=0).segments, [("numeric", [48] * 255)])

    def test_2048_bytes_fit_in_none(self):
        found = encode([48] * 2047, level="L", mask=0)
        self.assertEqual(found.version, plain.version_of([48] * 2047, "L", 10, 40, None, best_segments))
        self.assert_too_long(encode, [48] * 2048, level="L")
        self.assert_too_long(encode, [48] * 2048, level="L", least=40)
        self.assert_too_long(encode, [200] * 5000)

    def test_no_version_up_to_40(self):
        # 40-H has room for 1273 bytes, 40-Q for 1663.
        for level, longest in (("H", 1273), ("Q", 1663)):
            self.assertEqual(encode([200] * longest, level=level, mask=0).version, 40)
            self.assert_too_long(encode, [200] * (longest + 1), level=level)
        self.assertEqual(encode([200] * 1271, level="H", header=(0, 1, 0), mask=0).version, 40)
        self.assert_too_long(encode, [200] * 1272, level="H", header=(0, 1, 0))

    def test_the_greatest_version_that_is_allowed(self):
        self.assertEqual(encode([200] * 14, most=1, mask=0).version, 1)
        self.assert_too_long(encode, [200] * 15, most=1)
        self.assertEqual(encode([200] * 15, most=2, mask=0).version, 2)
        self.assert_too_long(encode, [200] * 15, least=1, most=1)
        self.assert_too_long(encode, [200] * 300, least=2, most=12, level="H")
        self.assertEqual(encode([200] * 230, level="L", least=9, most=9, mask=0).version, 9)
        self.assert_too_long(encode, [200] * 231, level="L", least=9, most=9)
        self.assertEqual(encode([200] * 231, level="L", least=9, most=10, mask=0).version, 10)
        self.assertEqual(encode([200] * 1367, level="L", least=20, most=26, mask=0).version, 26)
        self.assert_too_long(encode, [200] * 1368, level="L", least=20, most=26)
        self.assertEqual(encode([200] * 1368, level="L", least=20, most=27, mask=0).version, 27)

    def test_a_least_version_above_the_one_that_would_do(self):
        for least in VERSIONS:
            found = encode([72, 105], level="H", least=least, mask=least % 8)
            self.assertEqual(found.version, least)
        self.assertEqual(encode([200] * 15, least=2, mask=0).version, 2)
        self.assertEqual(encode([200] * 100, least=2, mask=0).version, 6)

    def test_the_empty_text(self):
        for level in LEVELS:
            found = encode([], level=level, mask=4)
            self.assert_symbol(found, 1, level, 4, None, [])
        self.assertEqual(encode([], least=33, most=33, mask=0).version, 33)
        self.assert_symbol(encode([], header=(2, 3, 9), mask=1), 1, "M", 1, (2, 3, 9), [])

    def test_a_header_counts(self):
        # 14 bytes leave 4 of 128 bits in 1-M, 12 bytes just the 20 of a header.
        self.assertEqual(encode([200] * 14, mask=0).version, 1)
        self.assertEqual(encode([200] * 14, header=(0, 1, 0), mask=0).version, 2)
        self.assertEqual(encode([200] * 12, header=(0, 1, 0), mask=0).version, 1)
        self.assertEqual(encode([200] * 13, header=(0, 1, 0), mask=0).version, 2)
        self.assert_too_long(encode, [200] * 13, header=(0, 1, 0), most=1)

    def test_a_header_of_20_bits_that_fits_just_so(self):
        for level in LEVELS:
            for header in ((0, 1, 0), (15, 16, 255)):
                just = segments_with_room_left(3, level, 0, header)
                self.assertEqual(encode_segments(just, level=level, header=header, least=3, mask=0).version, 3)
                self.assertEqual(encode_segments(just, level=level, least=3, mask=0).version, 3)
                mode, content = just[-1]
                more = just[:-1] + [(mode, content + [1])]
                self.assertEqual(encode_segments(more, level=level, header=header, least=3, mask=0).version, 4)

    def test_too_long_is_an_error_of_the_program(self):
        with self.assertRaises(DotfieldError):
            encode([0] * 3000)


def plain_byte_version(length, level, least, most, header=None):
    """The version of a text that is one segment of any bytes."""
    for version in range(least, most + 1):
        head = 4 + (8 if version <= 9 else 16) + (0 if header is None else 20)
        bits = head + 8 * length if length else head - 4 - (8 if version <= 9 else 16)
        if (length < 256 or version >= 10 and length < 2048) and bits <= plain.room(version, level):
            return version
    return None


class Headers(Case):

    def test_the_least_and_the_greatest(self):
        self.assert_words(
            data_list([], 1, "H", (0, 1, 0)), [48, 0, 0, 236, 17, 236, 17, 236, 17])
        self.assert_words(
            data_list([], 1, "H", (15, 16, 255)), [63, 255, 240, 236, 17, 236, 17, 236, 17])

    def test_the_fields(self):
        # 0011 0101 1010 11000011, then the end.
        self.assert_words(
            data_list([], 1, "H", (5, 11, 195)), [0b00110101, 0b10101100, 0b00110000, 236, 17, 236, 17, 236, 17])

    def test_before_the_segments(self):
        segments = [("numeric", [49, 50, 51]), ("byte", [1, 2])]
        for version in (1, 9, 10, 27, 40):
            for header in (None, (0, 1, 0), (1, 2, 128), (15, 16, 255), (7, 9, 1)):
                found = data_list(segments, version, "L", header)
                self.assert_words(found, plain.data_list(segments, version, "L", header))

    def test_of_a_symbol(self):
        for header in ((0, 1, 0), (15, 16, 255), (3, 4, 5)):
            self.assert_symbol(
                encode([65, 66], header=header, mask=3), 1, "M", 3, header, [("alphanumeric", [65, 66])])

    def test_all_indexes_and_counts(self):
        for count in range(1, 17):
            for index in range(count):
                header = (index, count, 17 * index)
                self.assert_words(data_list([], 1, "L", header), plain.data_list([], 1, "L", header))


class DataList(Case):

    def test_no_segments(self):
        for version in VERSIONS:
            for level in LEVELS:
                found = data_list([], version, level)
                self.assert_words(found, plain.data_list([], version, level))
                self.assertEqual(found[:4], [0, 236, 17, 236])
                self.assertEqual(8 * len(found), plain.room(version, level))

    def test_each_number_of_bits_left(self):
        for version in (1, 2, 10):
            for level in LEVELS:
                for left in range(0, 33 if plain.room(version, level) > 72 else 9):
                    segments = segments_with_room_left(version, level, left)
                    found = data_list(segments, version, level)
                    self.assert_words(found, plain.data_list(segments, version, level))

    def test_each_number_of_bits_left_behind_a_header(self):
        header = (1, 16, 200)
        for version, level in ((1, "L"), (1, "M"), (2, "H"), (9, "Q"), (10, "L")):
            for left in range(0, 33):
                segments = segments_with_room_left(version, level, left, header)
                found = data_list(segments, version, level, header)
                self.assert_words(found, plain.data_list(segments, version, level, header))

    def test_just_full_words(self):
        segments = segments_with_room_left(1, "H", 0)
        bits = plain_bits(segments, 1)
        self.assertEqual(len(bits), 72)
        expected = [int("".join(map(str, bits[start:start + 8])), 2) for start in range(0, 72, 8)]
        self.assertEqual(data_list(segments, 1, "H"), expected)

    def test_one_to_eight_bits_left_are_zeros(self):
        for left in range(1, 9):
            segments = segments_with_room_left(1, "H", left)
            last = data_list(segments, 1, "H")[-1]
            self.assertEqual(last % (1 << left), 0)

    def test_the_words_236_and_17_in_turn(self):
        for length in range(1, 18):
            found = data_list([("byte", [255] * length)], 1, "L")
            filling = found[length + 2:]
            self.assertEqual(filling, ([236, 17] * 9)[:17 - length])

    def test_any_segments(self):
        chance = random.Random(24)
        for _ in range(60):
            version = chance.choice((1, 3, 9, 10, 26, 27, 40))
            text = some_text(chance, chance.randrange(1, 14))
            segments = best_segments(text, version)
            level = chance.choice("LM")
            if len(plain_bits(segments, version)) <= plain.room(version, level):
                self.assert_words(
                    data_list(segments, version, level), plain.data_list(segments, version, level))

    def test_without_a_header_by_name(self):
        self.assertEqual(
            data_list([("byte", [1])], 2, "L", header=None), data_list([("byte", [1])], 2, "L"))

    def test_the_segments_stay(self):
        segments = [("numeric", [49, 50, 51, 52]), ("byte", [1, 2])]
        kept = copied(segments)
        found = data_list(segments, 1, "L")
        found.clear()
        self.assertEqual(segments, kept)


class WordList(Case):

    def test_all_versions_and_levels(self):
        chance = random.Random(25)
        for version in VERSIONS:
            for level in LEVELS:
                data = some_words(chance, plain.room(version, level) // 8)
                kept = list(data)
                found = word_list(data, version, level)
                self.assertEqual(data, kept)
                self.assertEqual(len(found), plain.total_words(version))
                self.assert_words(found, plain.word_list(data, version, level))

    def test_one_block(self):
        found = word_list(list(range(1, 20)), 1, "L")
        self.assertEqual(found[:19], list(range(1, 20)))
        self.assertTrue(plain_is_codeword(found, 7))

    def test_blocks_of_equal_length(self):
        # Version 4-M: 2 blocks of 32 data words.
        found = word_list(list(range(64)), 4, "M")
        expected = [word for i in range(32) for word in (i, 32 + i)]
        self.assertEqual(found[:64], expected)
        for first in (0, 1):
            self.assertTrue(plain_is_codeword(found[first:64:2] + found[64 + first::2], 18))

    def test_blocks_of_different_length(self):
        # Version 5-Q: 2 blocks of 15 data words, then 2 of 16.
        found = word_list(list(range(62)), 5, "Q")
        expected = [word for i in range(15) for word in (i, 15 + i, 30 + i, 46 + i)] + [45, 61]
        self.assertEqual(found[:62], expected)
        checks = found[62:]
        for block, size in enumerate((15, 15, 16, 16)):
            data = found[block:60:4] + (found[58 + block:59 + block] if size == 16 else [])
            self.assertEqual(len(data), size)
            self.assertTrue(plain_is_codeword(data + checks[block::4], 18))

    def test_the_list_is_new(self):
        data = list(range(19))
        found = word_list(data, 1, "L")
        found.clear()
        self.assertEqual(data, list(range(19)))


class Draw(Case):

    def assert_drawn(self, words, version, level, mask):
        kept = list(words)
        found = draw(words, version, level, mask)
        self.assertEqual(words, kept)
        self.assertIs(type(found), list)
        self.assertEqual(found, plain.draw(words, version, level, mask))
        self.assertTrue(all(type(one) is int for row in found for one in row))
        self.assertEqual(len({id(row) for row in found}), side_of(version))

    def test_each_level_and_each_mask(self):
        chance = random.Random(26)
        for version in (1, 6, 7):
            words = some_words(chance, plain.total_words(version))
            for level in LEVELS:
                for mask in MASKS:
                    self.assert_drawn(words, version, level, mask)

    def test_each_version(self):
        chance = random.Random(27)
        for version in VERSIONS:
            words = some_words(chance, plain.total_words(version))
            self.assert_drawn(words, version, chance.choice(LEVELS), chance.choice(MASKS))

    def test_words_of_zeros_and_of_ones(self):
        for version in (1, 2, 7):
            for word in (0, 255):
                for mask in MASKS:
                    self.assert_drawn([word] * plain.total_words(version), version, "L", mask)

    def test_the_places_that_remain_are_0_before_the_mask(self):
        # 7 modules remain in version 2, 3 in version 14, 4 in version 21; none in version 1.
        for version, remaining in ((2, 7), (6, 7), (14, 3), (20, 3), (21, 4), (27, 4), (28, 3), (1, 0), (7, 0)):
            places = plain.places_of(version)
            self.assertEqual(len(places) - 8 * plain.total_words(version), remaining)
            for mask in MASKS:
                found = draw([255] * plain.total_words(version), version, "H", mask)
                for row, column in places[len(places) - remaining:]:
                    self.assertEqual(found[row][column], plain.CONDITIONS[mask](row, column))

    def test_the_words_of_version_and_format_are_not_masked(self):
        for mask in MASKS:
            found = draw([0] * plain.total_words(8), 8, "Q", mask)
            for copy in plain.plain_format_places(8):
                bits = [found[row][column] for row, column in copy]
                self.assertEqual(sum(bit << i for i, bit in enumerate(bits)), plain.plain_format_word("Q", mask))
            for copy in plain.plain_version_places(8):
                bits = [found[row][column] for row, column in copy]
                self.assertEqual(sum(bit << i for i, bit in enumerate(bits)), 0x085BC)


class Masks(Case):

    def least_masks(self, found):
        """All masks whose grid has the least penalty, by the plain counting."""
        penalties = [
            plain_penalty(plain.grid_of(found.segments, found.version, found.level, mask, found.header))
            for mask in MASKS
        ]
        return [mask for mask in MASKS if penalties[mask] == min(penalties)]

    def test_a_given_mask_is_taken(self):
        for mask in MASKS:
            for level in LEVELS:
                self.assert_symbol(
                    encode(list(b"Dotfield"), level=level, mask=mask),
                    1 if level != "H" else 2, level, mask, None, [("byte", list(b"Dotfield"))])

    def test_the_least_penalty(self):
        chance = random.Random(28)
        chosen = set()
        for _ in range(40):
            text = some_text(chance, chance.randrange(1, 20))
            found = encode(text, level=chance.choice(LEVELS), header=chance.choice((None, (0, 2, 3))))
            self.assertEqual(found.mask, self.least_masks(found)[0])
            self.assert_symbol(found, found.version, found.level, found.mask, found.header, found.segments)
            chosen.add(found.mask)
        self.assertGreater(len(chosen), 5)

    def test_versions_with_version_words(self):
        for version in (7, 13):
            found = encode(list(b"version words count, too"), least=version)
            self.assertEqual([found.version, found.mask], [version, self.least_masks(found)[0]])

    def test_of_several_the_smallest(self):
        for word, masks in (("31", [0, 3]), ("119", [1, 3]), ("124", [0, 3]), ("294", [1, 7]),
                            ("313", [3, 7]), ("348", [0, 3, 6]), ("395", [2, 3])):
            found = encode(list(word.encode()), level="L")
            self.assertEqual(self.least_masks(found), masks)
            self.assertEqual(found.mask, masks[0])

    def test_no_mask_by_name(self):
        self.assertEqual(encode([1, 2, 3], mask=None), encode([1, 2, 3]))

    def test_encode_segments_chooses_likewise(self):
        for text in ([49, 50, 51], [1, 2, 3], list(b"ABC")):
            found = encode_segments([("byte", text)])
            self.assertEqual(found.mask, self.least_masks(found)[0])


class Encode(Case):

    def test_what_is_taken_if_nothing_is_said(self):
        found = encode([72, 105])
        self.assertEqual([found.version, found.level, found.header], [1, "M", None])
        self.assertEqual(found.segments, [("byte", [72, 105])])

    def test_all_levels_and_masks(self):
        text = list(b"Promises 09.1 to 09.6, in several segments: 1234567890")
        for level in LEVELS:
            for mask in MASKS:
                for least in (1, 7):
                    found = encode(text, level=level, mask=mask, least=least)
                    version = plain.version_of(text, level, least, 40, None, best_segments)
                    self.assert_symbol(found, version, level, mask, None, best_by_trying(text, version))

    def test_large_versions(self):
        chance = random.Random(29)
        for version in (14, 27, 40):
            text = some_text(chance, 150)
            found = encode(text, level="Q", least=version, mask=6, header=(4, 8, 15))
            self.assert_symbol(found, version, "Q", 6, (4, 8, 15), best_by_trying(text, version))

    def test_the_text_stays_and_the_symbol_is_new(self):
        text = list(b"abc12345678")
        kept = list(text)
        found = encode(text)
        expected = encode(text)
        self.assertEqual(text, kept)
        for _, content in found.segments:
            content.clear()
        found.segments.clear()
        for row in found.grid:
            row.clear()
        self.assertEqual(text, kept)
        self.assertEqual(encode(text), expected)

    def test_only_the_text_is_passed_by_its_place(self):
        for call in (encode, encode_segments):
            with self.assertRaises(TypeError):
                call([], "L")


class EncodeSegments(Case):

    def test_a_list_that_is_not_the_best_one(self):
        segments = [("byte", [49]), ("numeric", [50]), ("byte", [51, 52]), ("alphanumeric", [53]), ("alphanumeric", [54])]
        for level, version in (("L", 1), ("H", 2)):
            found = encode_segments(segments, level=level, mask=5)
            self.assert_symbol(found, version, level, 5, None, segments)
        self.assertEqual(best_segments(list(b"123456"), 1), [("numeric", list(b"123456"))])

    def test_the_best_list(self):
        text = list(b"abc12345678")
        found = encode_segments(best_segments(text, 1), level="H")
        self.assertEqual(found, encode(text, level="H"))

    def test_no_segments(self):
        self.assertEqual(encode_segments([]), encode([]))
        self.assertEqual(encode_segments([], header=(1, 2, 3), least=5), encode([], header=(1, 2, 3), least=5))

    def test_one_segment_of_255_bytes(self):
        for mode, byte, version in (("byte", 200, 10), ("alphanumeric", 90, 8), ("numeric", 57, 5)):
            segments = [(mode, [byte] * 255)]
            found = encode_segments(segments, level="L", mask=7)
            self.assert_symbol(found, version, "L", 7, None, segments)

    def test_more_bytes_than_best_segments_takes(self):
        # 2 segments with 256 digits in all, in a version below 10; 12 with more than 2047.
        segments = [("numeric", [49] * 255), ("numeric", [50])]
        self.assert_symbol(encode_segments(segments, level="L", mask=0), 6, "L", 0, None, segments)
        segments = [("numeric", [48 + i % 10] * 255) for i in range(12)]
        found = encode_segments(segments, level="L", mask=0)
        version = next(one for one in range(10, 41)
                       if len(plain_bits(segments, one)) <= plain.room(one, "L"))
        self.assert_symbol(found, version, "L", 0, None, segments)

    def test_the_version(self):
        for level in LEVELS:
            for version in (1, 2, 9, 10):
                just = segments_with_room_left(version, level, 0) if version < 3 else [
                    ("byte", [255] * 20) for _ in range(plain.room(version, level) // (180 if version > 9 else 172))]
                if version < 3:
                    self.assertEqual(encode_segments(just, level=level, mask=0).version, version)
                bits = len(plain_bits(just, version))
                self.assertLessEqual(bits, plain.room(version, level))
                found = encode_segments(just, level=level, mask=0).version
                expected = next(one for one in range(1, 41)
                                if len(plain_bits(just, one)) <= plain.room(one, level))
                self.assertEqual(found, expected)

    def test_too_long(self):
        self.assert_too_long(encode_segments, [("byte", [0] * 15)], most=1)
        self.assert_too_long(encode_segments, [("byte", [0] * 13)], most=1, header=(0, 1, 0))
        self.assert_too_long(encode_segments, [("byte", [0] * 255)] * 12, level="L")
        self.assertEqual(encode_segments([("byte", [0] * 15)], most=2, mask=0).version, 2)
        self.assertEqual(encode_segments([("byte", [0] * 15)], least=4, most=4, mask=0).version, 4)

    def test_the_segments_are_a_copy(self):
        segments = [("numeric", [49, 50]), ("byte", [1, 2])]
        kept = copied(segments)
        found = encode_segments(segments)
        self.assertEqual(segments, kept)
        self.assertEqual(found.segments, kept)
        segments[0][1].append(51)
        segments[1][1][0] = 9
        segments.pop()
        self.assertEqual(found.segments, kept)
        segments = copied(kept)
        found = encode_segments(segments)
        found.segments[0][1].clear()
        found.segments.append(("byte", [7]))
        self.assertEqual(segments, kept)


class Other:
    """A value of another class with the same attributes."""

    def __init__(self, symbol):
        self.__dict__.update(symbol.__dict__)


class Symbols(unittest.TestCase):

    def arguments(self):
        return {
            "version": 1, "level": "M", "mask": 2, "header": (0, 2, 7),
            "segments": [("byte", [1, 2])], "grid": [[0, 1], [1, 0]],
        }

    def test_the_attributes(self):
        found = Symbol(3, "Q", 5, None, [("numeric", [49])], [[1]])
        self.assertEqual(
            [found.version, found.level, found.mask, found.header, found.segments, found.grid],
            [3, "Q", 5, None, [("numeric", [49])], [[1]]])
        self.assertEqual(vars(Symbol(**self.arguments())), self.arguments())

    def test_equal_ones(self):
        self.assertIs(Symbol(**self.arguments()) == Symbol(**self.arguments()), True)
        self.assertIs(Symbol(**self.arguments()) != Symbol(**self.arguments()), False)

    def test_each_attribute_counts(self):
        others = {
            "version": 2, "level": "L", "mask": 3, "header": None,
            "segments": [("byte", [1, 3])], "grid": [[0, 1], [1, 1]],
        }
        for name, value in others.items():
            changed = self.arguments() | {name: value}
            self.assertIs(Symbol(**self.arguments()) == Symbol(**changed), False)
            self.assertIs(Symbol(**self.arguments()) != Symbol(**changed), True)
            self.assertIs(Symbol(**changed) == Symbol(**self.arguments()), False)
        for name, value in (("segments", []), ("segments", [("byte", [1]), ("byte", [2])]), ("grid", []),
                            ("header", (1, 2, 7)), ("header", (0, 3, 7)), ("header", (0, 2, 8))):
            self.assertIs(Symbol(**self.arguments()) == Symbol(**self.arguments() | {name: value}), False)

    def test_values_of_other_classes(self):
        symbol = Symbol(**self.arguments())
        for other in (None, 0, 1, "Symbol", [], (), {}, self.arguments(), tuple(self.arguments().values()),
                      Other(symbol), TooLong(0), object(), Symbol, symbol.grid):
            self.assertIs(symbol == other, False)
            self.assertIs(symbol != other, True)
            self.assertIs(other == symbol, False)

    def test_symbols_of_encode(self):
        self.assertEqual(encode([1, 2, 3]), encode([1, 2, 3]))
        self.assertNotEqual(encode([1, 2, 3]), encode([1, 2, 4]))
        self.assertNotEqual(encode([1, 2, 3], mask=1), encode([1, 2, 3], mask=2))


if __name__ == "__main__":
    unittest.main()
