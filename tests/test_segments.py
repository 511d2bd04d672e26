"""Promises 06.1 to 06.5, and the interface of dotfield.segments."""

import itertools
import random
import unittest

from dotfield.bits import BitWriter
from dotfield.errors import InvalidCount, InvalidMode, Truncated
from dotfield.segments import best_segments, fits, read_segments, segment_bits, write_segments

DIGITS = list(b"0123456789")
ALPHANUMERIC = list(b"0123456789ABCDEFGHIJKLMNOPQRSTUVWXYZ $%*+-./:")
MODES = ("numeric", "alphanumeric", "byte")
NUMBERS = {"numeric": 1, "alphanumeric": 2, "byte": 4}
WIDTHS = {"numeric": (10, 12, 14), "alphanumeric": (9, 11, 13), "byte": (8, 16, 16)}
ALLOWED = {"numeric": DIGITS, "alphanumeric": ALPHANUMERIC, "byte": range(256)}
EDGES = (1, 9, 10, 26, 27, 40)


def text_of(word):
    return list(word.encode("latin-1"))


def width_of(mode, version):
    return WIDTHS[mode][0 if version <= 9 else 1 if version <= 26 else 2]


def field(width, value):
    return [int(one) for one in f"{value:0{width}b}"]


def plain_fits(mode, content):
    return all(byte in ALLOWED[mode] for byte in content)


def plain_segment(segment, version):
    """The bits of a segment, by the words of point 06.2."""
    mode, content = segment
    bits = field(4, NUMBERS[mode]) + field(width_of(mode, version), len(content))
    if mode == "numeric":
        for start in range(0, len(content), 3):
            group = bytes(content[start:start + 3]).decode("ascii")
            bits += field({1: 4, 2: 7, 3: 10}[len(group)], int(group))
    elif mode == "alphanumeric":
        for start in range(0, len(content) - 1, 2):
            a, b = [ALPHANUMERIC.index(byte) for byte in content[start:start + 2]]
            bits += field(11, 45 * a + b)
        if len(content) % 2:
            bits += field(6, ALPHANUMERIC.index(content[-1]))
    else:
        for byte in content:
            bits += field(8, byte)
    return bits


def plain_bits(segments, version):
    return [bit for segment in segments for bit in plain_segment(segment, version)]


def plain_cost(mode, length, version):
    head = 4 + width_of(mode, version)
    if mode == "numeric":
        return head + length // 3 * 10 + (0, 4, 7)[length % 3]
    if mode == "alphanumeric":
        return head + length // 2 * 11 + length % 2 * 6
    return head + length * 8


def all_lists(text):
    """Every list of segments whose contents are the text."""
    if not text:
        yield []
    for end in range(1, len(text) + 1):
        for mode in MODES:
            if plain_fits(mode, text[:end]):
                for rest in all_lists(text[end:]):
                    yield [(mode, text[:end])] + rest


def best_of_all(text, version):
    """The least list by the words of point 06.3: bits, then bytes and mode of each segment in turn."""
    def rank(segments):
        cost = sum(plain_cost(mode, len(content), version) for mode, content in segments)
        return cost, [(-len(content), MODES.index(mode)) for mode, content in segments]
    return min(all_lists(text), key=rank)


def best_by_trying(text, version):
    """For each place from the last one on, all ends and modes of the next segment are tried."""
    least = {len(text): (0, None)}
    for start in range(len(text) - 1, -1, -1):
        ways = []
        for mode in MODES:
            end = start
            while end < len(text) and text[end] in ALLOWED[mode]:
                end += 1
                if end - start < 1 << width_of(mode, version):
                    cost = plain_cost(mode, end - start, version) + least[end][0]
                    ways.append((cost, -end, MODES.index(mode)))
        least[start] = min(ways)[0], min(ways)[1:]
    segments = []
    start = 0
    while start < len(text):
        end, order = least[start][1]
        segments.append((MODES[order], text[start:-end]))
        start = -end
    return segments


def some_text(chance, length):
    """Runs of digits, of alphanumeric bytes and of any bytes."""
    text = []
    while len(text) < length:
        kind = chance.choice((DIGITS, DIGITS, ALPHANUMERIC, ALPHANUMERIC[10:], range(256), range(97, 123)))
        text += [chance.choice(kind) for _ in range(chance.randrange(1, 22))]
    return text[:length]


class Case(unittest.TestCase):

    def assert_segments(self, found, expected):
        self.assertIs(type(found), list)
        self.assertEqual(found, expected)
        for segment in found:
            self.assertEqual([type(segment), type(segment[0]), type(segment[1])], [tuple, str, list])
            self.assertTrue(all(type(byte) is int for byte in segment[1]))

    def assert_raised(self, error, place, bits, version, at=0):
        kept = list(bits)
        with self.assertRaises(error) as found:
            read_segments(bits, version, at)
        self.assertIs(type(found.exception), error)
        self.assertEqual([found.exception.place, found.exception.name], [place, error.__name__])
        self.assertEqual(bits, kept)


class Fits(Case):

    def test_each_byte(self):
        for mode in MODES:
            for byte in range(256):
                found = fits(mode, [byte])
                self.assertIs(found, byte in ALLOWED[mode])

    def test_the_numbers_of_bytes(self):
        allowed = [sum(fits(mode, [byte]) for byte in range(256)) for mode in MODES]
        self.assertEqual(allowed, [10, 45, 256])

    def test_the_empty_content(self):
        for mode in MODES:
            self.assertIs(fits(mode, []), True)

    def test_one_wrong_byte_among_right_ones(self):
        for mode, right, wrong in (("numeric", 48, 65), ("numeric", 57, 58), ("numeric", 48, 47),
                                   ("alphanumeric", 65, 97), ("alphanumeric", 32, 33), ("alphanumeric", 90, 91)):
            self.assertIs(fits(mode, [right] * 5), True)
            for place in range(5):
                content = [right] * 5
                content[place] = wrong
                self.assertIs(fits(mode, content), False)
                self.assertIs(fits("byte", content), True)

    def test_the_content_stays(self):
        content = [49, 50]
        fits("numeric", content)
        self.assertEqual(content, [49, 50])


class SegmentBits(Case):

    def test_the_example_of_the_interface(self):
        self.assertEqual(
            [segment_bits(("numeric", [49, 50, 51, 52]), 1), segment_bits(("alphanumeric", [65, 66, 67]), 1)],
            [28, 30])

    def test_each_mode_and_every_remainder(self):
        for version in EDGES:
            for mode in MODES:
                for length in range(1, 40):
                    segment = (mode, [48] * length)
                    found = segment_bits(segment, version)
                    self.assertIs(type(found), int)
                    self.assertEqual(found, plain_cost(mode, length, version))
                    self.assertEqual(found, len(plain_segment(segment, version)))

    def test_every_version(self):
        for version in range(1, 41):
            self.assertEqual(segment_bits(("numeric", [48]), version), 4 + width_of("numeric", version) + 4)
            self.assertEqual(segment_bits(("alphanumeric", [48]), version), 4 + width_of("alphanumeric", version) + 6)
            self.assertEqual(segment_bits(("byte", [48]), version), 4 + width_of("byte", version) + 8)

    def test_the_longest_contents(self):
        for mode in MODES:
            for length in (255, 254, 253):
                self.assertEqual(segment_bits((mode, [57] * length), 1), plain_cost(mode, length, 1))
            for length in (2047, 2046, 2045):
                self.assertEqual(segment_bits((mode, [57] * length), 40), plain_cost(mode, length, 40))

    def test_the_segment_stays(self):
        segment = ("byte", [1, 2, 3])
        segment_bits(segment, 3)
        self.assertEqual(segment, ("byte", [1, 2, 3]))


class BestSegments(Case):

    def assert_best(self, text, version, expected):
        kept = list(text)
        found = best_segments(text, version)
        self.assert_segments(found, expected)
        self.assertEqual(text, kept)
        for mode, content in found:
            self.assertTrue(plain_fits(mode, content))
            self.assertIn(len(content), range(1, 1 << width_of(mode, version)))

    def test_the_example_of_the_interface(self):
        self.assert_best([65, 66, 49, 50, 97], 1, [("byte", [65, 66, 49, 50, 97])])

    def test_the_empty_text(self):
        for version in range(1, 41):
            self.assert_best([], version, [])

    def test_each_text_of_one_byte(self):
        for version in EDGES:
            for byte in range(256):
                mode = "numeric" if byte in DIGITS else "alphanumeric" if byte in ALPHANUMERIC else "byte"
                self.assert_best([byte], version, [(mode, [byte])])

    def test_short_texts_against_all_lists(self):
        for version in (1, 10, 27):
            for length in range(6):
                for text in itertools.product(text_of("1Aa"), repeat=length):
                    self.assert_best(list(text), version, best_of_all(list(text), version))

    def test_texts_of_runs_against_all_lists(self):
        for version in EDGES:
            for word in ("1234567a", "a1234567", "12345AB", "AB12345", "ABCDEFa", "aABCDEF", "aaaaaaa"):
                text = text_of(word)
                self.assert_best(text, version, best_of_all(text, version))

    def test_the_tests_own_searches_agree(self):
        chance = random.Random(1)
        for _ in range(60):
            text = some_text(chance, chance.randrange(7))
            version = chance.choice(EDGES)
            self.assertEqual(best_by_trying(text, version), best_of_all(text, version))

    def test_texts_of_runs_in_every_column(self):
        chance = random.Random(2)
        for version in EDGES:
            for length in range(1, 120, 3):
                text = some_text(chance, length)
                self.assert_best(text, version, best_by_trying(text, version))

    def test_two_runs_of_every_length(self):
        runs = {"1": text_of("1"), "A": text_of("A"), "a": text_of("a")}
        for version in (9, 26, 40):
            for first, second in itertools.permutations(runs, 2):
                for before in range(1, 19):
                    for behind in range(1, 19):
                        text = runs[first] * before + runs[second] * behind
                        self.assert_best(text, version, best_by_trying(text, version))

    def test_a_run_between_two_others(self):
        for version in (1, 10, 27):
            for inner, outer in (("1", "a"), ("1", "A"), ("A", "a"), ("a", "A"), ("a", "1"), ("A", "1")):
                for length in range(1, 26):
                    for around in (1, 2, 3, 9, 10, 11):
                        text = text_of(outer) * around + text_of(inner) * length + text_of(outer) * around
                        self.assert_best(text, version, best_by_trying(text, version))

    def test_of_equally_few_bits_the_longest_first_segment_is_taken(self):
        # For each of these texts several lists have the fewest bits.
        found = 0
        for version in (1, 10, 27):
            for text in self.texts_with_a_choice(version):
                expected = best_by_trying(text, version)
                self.assert_best(text, version, expected)
                found += 1
        self.assertGreater(found, 30)

    def texts_with_a_choice(self, version):
        for first, second in itertools.permutations("1Aa", 2):
            for before, behind in itertools.product(range(1, 20), repeat=2):
                text = text_of(first) * before + text_of(second) * behind
                if len(self.least_lists_of_two(text, version)) > 1:
                    yield text

    def least_lists_of_two(self, text, version):
        """Of the lists of one and of two segments those with the fewest bits."""
        costs = {}
        for cut in range(1, len(text) + 1):
            for mode, other in itertools.product(MODES, repeat=2):
                if plain_fits(mode, text[:cut]) and plain_fits(other, text[cut:]):
                    cost = plain_cost(mode, cut, version)
                    if cut < len(text):
                        cost += plain_cost(other, len(text) - cut, version)
                    costs[(cut, mode, other if cut < len(text) else None)] = cost
        return [one for one in costs if costs[one] == min(costs.values())]

    def test_some_choices_by_hand(self):
        # 14 + 17 + 12 + 16 = 59 bits, against 12 + 56 = 68 as bytes.
        self.assert_best(text_of("12345ab"), 1, [("numeric", text_of("12345")), ("byte", text_of("ab"))])
        # 12 + 32 = 44 bits, and as many as a number and one byte: 14 + 10 + 12 + 8.
        self.assert_best(text_of("123a"), 1, [("byte", text_of("123a"))])
        # 14 + 14 + 12 + 8 = 48 bits, against 12 + 40 = 52 as bytes.
        self.assert_best(text_of("1234a"), 1, [("numeric", text_of("1234")), ("byte", text_of("a"))])

    def test_255_bytes_in_version_1(self):
        chance = random.Random(3)
        self.assert_best([200] * 255, 1, [("byte", [200] * 255)])
        self.assert_best([48] * 255, 9, [("numeric", [48] * 255)])
        self.assert_best([65] * 255, 1, [("alphanumeric", [65] * 255)])
        for version in (1, 9):
            text = some_text(chance, 255)
            self.assert_best(text, version, best_by_trying(text, version))

    def test_some_hundred_bytes_in_a_version_of_at_least_10(self):
        chance = random.Random(4)
        for version in (10, 26, 27, 40):
            text = some_text(chance, chance.randrange(256, 500))
            self.assert_best(text, version, best_by_trying(text, version))

    def test_2047_bytes_in_a_version_of_at_least_10(self):
        chance = random.Random(5)
        self.assert_best([48] * 2047, 10, [("numeric", [48] * 2047)])
        self.assert_best([58] * 2047, 10, [("alphanumeric", [58] * 2047)])
        self.assert_best([255] * 2047, 27, [("byte", [255] * 2047)])
        text = some_text(chance, 2047)
        found = best_segments(text, 10)
        self.assertEqual([byte for _, content in found for byte in content], text)
        self.assert_best(text, 10, best_by_trying(text, 10))

    def test_the_rest_is_the_best_of_the_rest(self):
        chance = random.Random(6)
        for version in EDGES:
            text = some_text(chance, 200)
            found = best_segments(text, version)
            for _, content in list(found):
                self.assertEqual(text[:len(content)], content)
                text = text[len(content):]
                found = found[1:]
                self.assertEqual(best_segments(text, version), found)

    def test_the_contents_are_new_lists(self):
        text = [1, 2, 3]
        found = best_segments(text, 1)
        self.assertIsNot(found[0][1], text)
        found[0][1][0] = 9
        found.clear()
        self.assertEqual(text, [1, 2, 3])
        self.assertEqual(best_segments(text, 1), [("byte", [1, 2, 3])])


SOME_LISTS = (
    [],
    [("numeric", text_of("0"))],
    [("numeric", text_of("07"))],
    [("numeric", text_of("007"))],
    [("numeric", text_of("9999999999"))],
    [("alphanumeric", text_of(":"))],
    [("alphanumeric", text_of("::"))],
    [("alphanumeric", text_of("0A $%*+-./:"))],
    [("byte", [0])],
    [("byte", list(range(255)))],
    [("byte", text_of("12")), ("byte", text_of("12"))],
    [("numeric", text_of("12")), ("numeric", text_of("3456"))],
    [("byte", text_of("x")), ("numeric", text_of("0123")), ("alphanumeric", text_of("AB C")), ("byte", [255, 0])],
)


class WriteSegments(Case):

    def test_every_list_and_column(self):
        for version in EDGES:
            for segments in SOME_LISTS:
                kept = [(mode, list(content)) for mode, content in segments]
                writer = BitWriter()
                self.assertIsNone(write_segments(writer, segments, version))
                self.assertEqual(writer.bit_list(), plain_bits(segments, version))
                self.assertEqual(writer.bits_written(), sum(segment_bits(one, version) for one in segments))
                self.assertEqual(segments, kept)

    def test_the_example_of_the_standard(self):
        writer = BitWriter()
        write_segments(writer, [("numeric", text_of("01234567"))], 1)
        expected = "0001" + "0000001000" + "0000001100" + "0101011001" + "1000011"
        self.assertEqual(writer.bit_list(), [int(one) for one in expected])
        writer = BitWriter()
        write_segments(writer, [("alphanumeric", text_of("AC-42"))], 1)
        expected = "0010" + "000000101" + "00111001110" + "11100111001" + "000010"
        self.assertEqual(writer.bit_list(), [int(one) for one in expected])

    def test_every_group_of_digits(self):
        for length in (1, 2, 3):
            for number in range(10 ** length):
                segment = ("numeric", text_of(f"{number:0{length}d}"))
                writer = BitWriter()
                write_segments(writer, [segment], 1)
                self.assertEqual(writer.bit_list(), plain_segment(segment, 1))
                self.assertEqual(read_segments(writer.bit_list(), 1), [segment])

    def test_every_pair_and_every_single_byte(self):
        for pair in list(itertools.product(ALPHANUMERIC, repeat=2)) + [(one,) for one in ALPHANUMERIC]:
            segment = ("alphanumeric", list(pair))
            writer = BitWriter()
            write_segments(writer, [segment], 1)
            self.assertEqual(writer.bit_list(), plain_segment(segment, 1))
            self.assertEqual(read_segments(writer.bit_list(), 1), [segment])

    def test_it_appends(self):
        writer = BitWriter()
        writer.write(3, 5)
        write_segments(writer, [("byte", [128])], 1)
        write_segments(writer, [("numeric", [57])], 1)
        expected = [1, 0, 1] + plain_bits([("byte", [128]), ("numeric", [57])], 1)
        self.assertEqual(writer.bit_list(), expected)


class ReadSegments(Case):

    def assert_read(self, bits, version, expected, at=0):
        kept = list(bits)
        found = read_segments(bits, version, at)
        self.assert_segments(found, expected)
        self.assertEqual(bits, kept)

    def test_what_was_written(self):
        for version in EDGES:
            for segments in SOME_LISTS:
                bits = plain_bits(segments, version)
                self.assert_read(bits, version, segments)

    def test_at_another_place(self):
        chance = random.Random(7)
        for version in EDGES:
            for segments in SOME_LISTS:
                for at in (1, 4, 20, 33):
                    bits = [chance.randrange(2) for _ in range(at)] + plain_bits(segments, version)
                    self.assert_read(bits, version, segments, at)

    def test_at_by_keyword(self):
        self.assertEqual(read_segments([1] + plain_segment(("byte", [9]), 1), 1, at=1), [("byte", [9])])

    def test_four_zero_bits_and_anything_behind(self):
        chance = random.Random(8)
        for version in EDGES:
            for segments in SOME_LISTS:
                bits = plain_bits(segments, version)
                for behind in ([], [0], [1], [1, 1, 1, 1], [0, 1, 0, 0, 0], [chance.randrange(2) for _ in range(50)]):
                    self.assert_read(bits + [0] * 4 + behind, version, segments)

    def test_fewer_than_four_bits_left(self):
        for version in EDGES:
            for segments in SOME_LISTS:
                bits = plain_bits(segments, version)
                for many in range(4):
                    for behind in itertools.product((0, 1), repeat=many):
                        self.assert_read(bits + list(behind), version, segments)

    def test_no_bits(self):
        self.assert_read([], 1, [])
        self.assert_read([0, 0, 0, 0], 40, [])
        self.assert_read([1, 1, 1], 5, [])
        self.assert_read([1, 1, 1, 1], 5, [], at=1)
        self.assert_read([1, 1, 1, 1], 5, [], at=4)

    def test_cut_off_at_every_place(self):
        for version in (1, 10, 40):
            for segments in SOME_LISTS[1:9] + SOME_LISTS[10:]:
                bits = plain_bits(segments, version)
                begins = {}
                for k in range(len(segments) + 1):
                    begins[len(plain_bits(segments[:k], version))] = segments[:k]
                for end in range(len(bits) + 1):
                    whole = [begin for begin in begins if begin <= end][-1]
                    for at in (0, 7):
                        shorter = [1] * at + bits[:end]
                        if end - whole < 4:
                            self.assert_read(shorter, version, begins[whole], at)
                        else:
                            self.assert_raised(Truncated, at + end, shorter, version, at)

    def test_a_mode_that_does_not_exist(self):
        before = plain_bits([("byte", [65]), ("numeric", [48])], 1)
        for number in range(16):
            if number not in (0, 1, 2, 4):
                for behind in ([], [0], [1] * 30):
                    bits = field(4, number) + behind
                    self.assert_raised(InvalidMode, 0, bits, 1)
                    self.assert_raised(InvalidMode, len(before), before + bits, 1)
                    self.assert_raised(InvalidMode, 5, [0] * 5 + bits, 1, at=5)

    def test_a_count_of_0(self):
        before = plain_bits([("alphanumeric", text_of("AB"))], 10)
        for version in EDGES:
            for mode in MODES:
                for behind in ([], [0] * 40, [1] * 40):
                    bits = field(4, NUMBERS[mode]) + [0] * width_of(mode, version) + behind
                    self.assert_raised(InvalidCount, 4, bits, version)
                    self.assert_raised(InvalidCount, 12, [1] * 8 + bits, version, at=8)
        bits = before + field(4, 4) + [0] * 16
        self.assert_raised(InvalidCount, len(before) + 4, bits, 10)

    def test_the_count_field_is_cut_off(self):
        for version in EDGES:
            for mode in MODES:
                width = width_of(mode, version)
                for many in range(width):
                    self.assert_raised(Truncated, 4 + many, field(4, NUMBERS[mode]) + [0] * many, version)

    def test_groups_of_digits_that_are_too_large(self):
        for length, width in ((1, 4), (2, 7), (3, 10)):
            head = field(4, 1) + field(10, length)
            for number in range(1 << width):
                bits = head + field(width, number)
                if number < 10 ** length:
                    self.assert_read(bits, 1, [("numeric", text_of(f"{number:0{length}d}"))])
                else:
                    self.assert_raised(InvalidCount, 14, bits, 1)

    def test_pairs_and_single_values_that_are_too_large(self):
        for length, width in ((1, 6), (2, 11)):
            head = field(4, 2) + field(9, length)
            for number in range(1 << width):
                bits = head + field(width, number)
                if number < 45 ** length:
                    values = [number // 45, number % 45][-length:]
                    self.assert_read(bits, 1, [("alphanumeric", [ALPHANUMERIC[one] for one in values])])
                else:
                    self.assert_raised(InvalidCount, 13, bits, 1)

    def test_the_place_of_a_later_group(self):
        head = field(4, 1) + field(12, 8)
        for good, bad in (((999, 999), 100), ((0, 0), 127)):
            bits = head + field(10, good[0]) + field(10, good[1]) + field(7, bad)
            self.assert_raised(InvalidCount, 36, bits, 10)
            self.assert_raised(InvalidCount, 39, [1] * 3 + bits, 10, at=3)
        self.assert_raised(InvalidCount, 26, head + field(10, 999) + field(10, 1000) + field(7, 100), 10)
        head = field(4, 2) + field(11, 5)
        bits = head + field(11, 2024) + field(11, 2024) + field(6, 45)
        self.assert_raised(InvalidCount, 37, bits, 10)
        self.assert_raised(InvalidCount, 26, head + field(11, 2024) + field(11, 2025) + field(6, 45), 10)

    def test_the_error_that_comes_first(self):
        # A group that is too large, before the end of the bits.
        self.assert_raised(InvalidCount, 14, field(4, 1) + field(10, 6) + field(10, 1000) + [1] * 9, 1)
        # The end of the bits, within a group that would be too large.
        self.assert_raised(Truncated, 23, field(4, 1) + field(10, 3) + [1] * 9, 1)
        # A count of 0, before a mode that does not exist.
        self.assert_raised(InvalidCount, 4, field(4, 4) + [0] * 8 + field(4, 15), 1)
        # A segment that is cut off, before a mode could be read.
        self.assert_raised(Truncated, 19, field(4, 4) + field(8, 1) + [1] * 7, 1)
        # A mode that does not exist, in front of what is too short for a count field.
        self.assert_raised(InvalidMode, 20, plain_segment(("byte", [1]), 1) + field(4, 3) + [0], 1)

    def test_every_byte(self):
        for byte in range(256):
            self.assert_read(plain_segment(("byte", [byte]), 1), 1, [("byte", [byte])])

    def test_long_contents(self):
        chance = random.Random(9)
        for version, length in ((1, 255), (9, 255), (10, 2047), (40, 2047)):
            for mode in MODES:
                segments = [(mode, [chance.choice(ALLOWED[mode]) for _ in range(length)])]
                writer = BitWriter()
                write_segments(writer, segments, version)
                self.assertEqual(writer.bit_list(), plain_bits(segments, version))
                self.assert_read(writer.bit_list(), version, segments)

    def test_the_best_segments(self):
        chance = random.Random(10)
        for version in EDGES:
            for length in (0, 1, 5, 60, 255):
                segments = best_segments(some_text(chance, length), version)
                writer = BitWriter()
                write_segments(writer, segments, version)
                self.assert_read(writer.bit_list() + [0] * 4 + [1] * 9, version, segments)

    def test_a_changed_list_changes_nothing(self):
        bits = plain_segment(("byte", [7, 8]), 1)
        found = read_segments(bits, 1)
        found[0][1].append(1)
        found.append(None)
        self.assertEqual(read_segments(bits, 1), [("byte", [7, 8])])


if __name__ == "__main__":
    unittest.main()
