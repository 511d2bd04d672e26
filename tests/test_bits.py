"""Promises 01.1, 01.2 and 01.3, and the interface of dotfield.bits."""

import random
import unittest

from dotfield.bits import BitReader, BitWriter
from dotfield.errors import DotfieldError, Truncated


def digits(width, value):
    """The bits of a field, worked out through its binary numeral."""
    return [int(digit) for digit in f"{value:0{width}b}"] if width else []


def written(*fields):
    writer = BitWriter()
    for width, value in fields:
        writer.write(width, value)
    return writer


def some_fields(seed, many):
    chance = random.Random(seed)
    fields = []
    for _ in range(many):
        width = chance.randrange(33)
        fields.append((width, chance.randrange(1 << width)))
    return fields


def edge_fields():
    fields = []
    for width in range(33):
        greatest = (1 << width) - 1
        for value in (0, 1, 2, greatest // 3, 1 << width >> 1, greatest - 1, greatest):
            if 0 <= value <= greatest:
                fields.append((width, value))
    return fields


class Case(unittest.TestCase):

    def assert_integers(self, found, expected):
        """Compare lists of integers, and see that True and False are not among them."""
        self.assertIs(type(found), list)
        self.assertEqual(found, expected)
        self.assertTrue(all(type(one) is int for one in found))

    def assert_integer(self, found, expected):
        self.assertIs(type(found), int)
        self.assertEqual(found, expected)

    def assert_truncated(self, reader, width, place):
        with self.assertRaises(Truncated) as caught:
            reader.read(width)
        self.assertIs(type(caught.exception), Truncated)
        self.assertEqual(caught.exception.name, "Truncated")
        self.assert_integer(caught.exception.place, place)


class Writing(Case):

    def test_the_example_of_the_interface(self):
        w = BitWriter()
        self.assertIsNone(w.write(4, 5))
        self.assertIsNone(w.write(6, 3))
        self.assertEqual([w.bit_list(), w.byte_list()], [[0, 1, 0, 1, 0, 0, 0, 0, 1, 1], [80, 192]])

    def test_an_empty_writer(self):
        writer = BitWriter()
        self.assert_integers(writer.bit_list(), [])
        self.assert_integers(writer.byte_list(), [])
        self.assert_integer(writer.bits_written(), 0)

    def test_write_returns_none(self):
        writer = BitWriter()
        for width, value in edge_fields():
            self.assertIsNone(writer.write(width, value))

    def test_a_field_of_each_width(self):
        for width, value in edge_fields():
            with self.subTest(width=width, value=value):
                writer = written((width, value))
                self.assert_integers(writer.bit_list(), digits(width, value))
                self.assert_integer(writer.bits_written(), width)

    def test_width_0(self):
        writer = written((0, 0))
        self.assert_integers(writer.bit_list(), [])
        self.assert_integers(writer.byte_list(), [])
        writer.write(3, 6)
        writer.write(0, 0)
        writer.write(1, 1)
        self.assert_integers(writer.bit_list(), [1, 1, 0, 1])
        self.assert_integer(writer.bits_written(), 4)

    def test_width_32(self):
        self.assert_integers(written((32, 0)).bit_list(), [0] * 32)
        self.assert_integers(written((32, 2 ** 32 - 1)).bit_list(), [1] * 32)
        self.assert_integers(written((32, 2 ** 31)).bit_list(), [1] + [0] * 31)
        self.assert_integers(written((32, 1)).bit_list(), [0] * 31 + [1])
        self.assert_integers(written((32, 0)).byte_list(), [0, 0, 0, 0])
        self.assert_integers(written((32, 2 ** 32 - 1)).byte_list(), [255, 255, 255, 255])
        self.assert_integers(written((32, 0x01020380)).byte_list(), [1, 2, 3, 128])

    def test_the_most_significant_bit_comes_first(self):
        self.assert_integers(written((3, 4), (3, 1), (2, 2)).bit_list(), [1, 0, 0, 0, 0, 1, 1, 0])

    def test_fields_that_cross_a_byte(self):
        self.assert_integers(written((5, 1), (6, 63)).byte_list(), [0b00001111, 0b11100000])
        self.assert_integers(written((7, 0), (10, 513)).byte_list(), [1, 0, 128])
        self.assert_integers(written((1, 1), (32, 0), (1, 1)).byte_list(), [128, 0, 0, 0, 64])

    def test_the_last_byte_is_filled_up_with_zeros(self):
        for width in range(1, 33):
            with self.subTest(width=width):
                bits = [1] * width + [0] * (-width % 8)
                expected = [int("".join(map(str, bits[k:k + 8])), 2) for k in range(0, len(bits), 8)]
                writer = written((width, (1 << width) - 1))
                self.assert_integers(writer.byte_list(), expected)

    def test_filling_up_adds_no_bits_to_the_writer(self):
        writer = written((3, 7))
        self.assert_integers(writer.byte_list(), [224])
        self.assert_integer(writer.bits_written(), 3)
        self.assert_integers(writer.bit_list(), [1, 1, 1])
        writer.write(5, 31)
        self.assert_integers(writer.byte_list(), [255])

    def test_a_whole_byte_is_not_filled_up(self):
        self.assert_integers(written((8, 0)).byte_list(), [0])
        self.assert_integers(written((8, 255), (8, 1)).byte_list(), [255, 1])

    def test_many_fields(self):
        for seed in range(20):
            fields = some_fields(seed, 40)
            bits = [bit for width, value in fields for bit in digits(width, value)]
            with self.subTest(seed=seed):
                writer = written(*fields)
                self.assert_integers(writer.bit_list(), bits)
                self.assert_integer(writer.bits_written(), len(bits))
                numeral = "".join(map(str, bits)) + "0" * (-len(bits) % 8)
                expected = list(int(numeral, 2).to_bytes(len(numeral) // 8, "big"))
                self.assert_integers(writer.byte_list(), expected)

    def test_two_writers_side_by_side(self):
        first = BitWriter()
        second = BitWriter()
        first.write(2, 3)
        second.write(3, 0)
        first.write(1, 0)
        self.assert_integers(first.bit_list(), [1, 1, 0])
        self.assert_integers(second.bit_list(), [0, 0, 0])
        self.assert_integers(first.byte_list(), [192])
        self.assert_integers(second.byte_list(), [0])
        self.assert_integer(first.bits_written(), 3)
        self.assert_integer(BitWriter().bits_written(), 0)

    def test_a_returned_list_that_is_changed_changes_nothing_in_the_writer(self):
        writer = written((8, 165), (2, 2))
        for returned in (writer.bit_list(), writer.byte_list()):
            returned[0] = 99
            returned.append(77)
            self.assert_integers(writer.bit_list(), [1, 0, 1, 0, 0, 1, 0, 1, 1, 0])
            self.assert_integers(writer.byte_list(), [165, 128])
            self.assert_integer(writer.bits_written(), 10)

    def test_changing_the_list_of_an_empty_writer(self):
        writer = BitWriter()
        writer.bit_list().append(1)
        writer.byte_list().append(1)
        self.assert_integers(writer.bit_list(), [])
        self.assert_integers(writer.byte_list(), [])

    def test_a_returned_list_does_not_change_when_more_is_written(self):
        writer = written((2, 3))
        bits = writer.bit_list()
        octets = writer.byte_list()
        writer.write(6, 63)
        self.assert_integers(bits, [1, 1])
        self.assert_integers(octets, [192])

    def test_reading_between_writes(self):
        writer = BitWriter()
        expected = []
        for width, value in some_fields(7, 30):
            writer.write(width, value)
            expected += digits(width, value)
            self.assert_integers(writer.bit_list(), expected)
            self.assert_integer(writer.bits_written(), len(expected))
            self.assertEqual(len(writer.byte_list()), (len(expected) + 7) // 8)
            self.assert_integers(writer.bit_list(), expected)

    def test_arguments_by_keyword(self):
        writer = BitWriter()
        writer.write(value=2, width=3)
        self.assert_integers(writer.bit_list(), [0, 1, 0])


class Reading(Case):

    def test_a_reader_begins_at_the_first_bit(self):
        reader = BitReader([1, 0, 1, 1])
        self.assert_integer(reader.at(), 0)
        self.assert_integer(reader.left(), 4)

    def test_fields_one_after_the_other(self):
        reader = BitReader([0, 1, 0, 1, 0, 0, 0, 0, 1, 1])
        self.assert_integer(reader.read(4), 5)
        self.assert_integer(reader.at(), 4)
        self.assert_integer(reader.left(), 6)
        self.assert_integer(reader.read(6), 3)
        self.assert_integer(reader.at(), 10)
        self.assert_integer(reader.left(), 0)

    def test_the_most_significant_bit_comes_first(self):
        self.assert_integer(BitReader([1, 0, 0, 0]).read(4), 8)
        self.assert_integer(BitReader([0, 0, 0, 1]).read(4), 1)
        self.assert_integer(BitReader([1, 1, 0]).read(3), 6)

    def test_a_field_of_each_width(self):
        for width, value in edge_fields():
            with self.subTest(width=width, value=value):
                reader = BitReader([1, 1, 1] + digits(width, value) + [1, 1, 1], 3)
                self.assert_integer(reader.read(width), value)
                self.assert_integer(reader.at(), 3 + width)
                self.assert_integer(reader.left(), 3)

    def test_width_32(self):
        self.assert_integer(BitReader([1] * 32).read(32), 2 ** 32 - 1)
        self.assert_integer(BitReader([0] * 32).read(32), 0)
        self.assert_integer(BitReader([1] + [0] * 31).read(32), 2 ** 31)

    def test_width_0_passes_no_bit(self):
        reader = BitReader([1, 1])
        self.assert_integer(reader.read(0), 0)
        self.assert_integer(reader.at(), 0)
        self.assert_integer(reader.read(1), 1)
        self.assert_integer(reader.read(0), 0)
        self.assert_integer(reader.at(), 1)
        self.assert_integer(reader.left(), 1)

    def test_at_and_left_do_not_pass_anything(self):
        reader = BitReader([1, 0, 1])
        for _ in range(3):
            self.assert_integer(reader.at(), 0)
            self.assert_integer(reader.left(), 3)
        self.assert_integer(reader.read(3), 5)

    def test_a_reader_that_begins_at_each_position(self):
        bits = [1, 0, 0, 1, 1, 0, 1]
        for at in range(len(bits) + 1):
            for reader in (BitReader(bits, at), BitReader(bits, at=at), BitReader(at=at, bits=bits)):
                with self.subTest(at=at):
                    self.assert_integer(reader.at(), at)
                    self.assert_integer(reader.left(), len(bits) - at)
                    rest = bits[at:]
                    expected = int("".join(map(str, rest)), 2) if rest else 0
                    self.assert_integer(reader.read(len(rest)), expected)
                    self.assert_integer(reader.at(), len(bits))
                    self.assert_truncated(reader, 1, len(bits))

    def test_no_bits(self):
        reader = BitReader([])
        self.assert_integer(reader.at(), 0)
        self.assert_integer(reader.left(), 0)
        self.assert_integer(reader.read(0), 0)
        self.assert_truncated(reader, 1, 0)
        self.assert_integer(reader.at(), 0)

    def test_the_list_of_bits_does_not_change(self):
        bits = [1, 0, 1, 1, 0, 0, 1]
        reader = BitReader(bits, 1)
        reader.read(2)
        reader.read(0)
        self.assert_truncated(reader, 5, 7)
        reader.read(4)
        reader.left()
        reader.at()
        self.assert_integers(bits, [1, 0, 1, 1, 0, 0, 1])

    def test_two_readers_of_the_same_bits(self):
        bits = [1, 0, 1, 1]
        first = BitReader(bits)
        second = BitReader(bits, 2)
        self.assert_integer(first.read(3), 5)
        self.assert_integer(second.at(), 2)
        self.assert_integer(second.read(2), 3)
        self.assert_integer(first.at(), 3)

    def test_what_was_written_is_read(self):
        for seed in range(20):
            fields = some_fields(seed, 40)
            bits = written(*fields).bit_list()
            with self.subTest(seed=seed):
                reader = BitReader(bits)
                for width, value in fields:
                    self.assert_integer(reader.read(width), value)
                self.assert_integer(reader.left(), 0)
                self.assert_integer(reader.at(), len(bits))


class ReadingBehindTheEnd(Case):

    def test_one_bit_more_than_there_is(self):
        for many in range(32):
            for at in range(many + 1):
                with self.subTest(many=many, at=at):
                    reader = BitReader([1] * many, at)
                    self.assert_truncated(reader, many - at + 1, many)
                    self.assert_integer(reader.at(), at)
                    self.assert_integer(reader.left(), many - at)

    def test_many_bits_more_than_there_are(self):
        reader = BitReader([0, 1, 1])
        for width in range(4, 33):
            self.assert_truncated(reader, width, 3)
        self.assert_integer(reader.at(), 0)
        self.assert_integer(reader.left(), 3)

    def test_the_position_does_not_change_in_the_middle(self):
        reader = BitReader([1, 0, 1, 1, 0])
        self.assert_integer(reader.read(2), 2)
        for _ in range(3):
            self.assert_truncated(reader, 4, 5)
            self.assert_integer(reader.at(), 2)
            self.assert_integer(reader.left(), 3)
        self.assert_integer(reader.read(3), 6)

    def test_width_0_at_the_end(self):
        for reader in (BitReader([]), BitReader([1, 1], 2)):
            at = reader.at()
            for _ in range(2):
                self.assert_integer(reader.read(0), 0)
                self.assert_integer(reader.at(), at)
                self.assert_integer(reader.left(), 0)

    def test_the_end_itself_is_no_error(self):
        reader = BitReader([1] * 32)
        self.assert_integer(reader.read(31), 2 ** 31 - 1)
        self.assert_integer(reader.read(1), 1)
        self.assert_truncated(reader, 1, 32)

    def test_the_error_is_one_of_the_program(self):
        with self.assertRaises(DotfieldError):
            BitReader([]).read(1)
        with self.assertRaises(ValueError):
            BitReader([]).read(1)


if __name__ == "__main__":
    unittest.main()
