"""Promises 04.1 to 04.6, and the interface of dotfield.words."""

import itertools
import random
import unittest

from dotfield.errors import InvalidFormat
from dotfield.words import distance, format_word, nearest_format, version_agrees, version_word

NUMBERS = {"L": 1, "M": 0, "Q": 3, "H": 2}
FORMATS = [(level, mask) for level in "LMQH" for mask in range(8)]
VERSIONS = range(7, 41)


def plain_remainder(a, g, width):
    """Point 04.2, over the digits of a: g is taken off wherever the first digit left is 1."""
    digits = [int(one) for one in f"{a:b}"]
    divisor = [int(one) for one in f"{g:b}"]
    for start in range(len(digits) - width):
        if digits[start]:
            for i, one in enumerate(divisor):
                digits[start + i] ^= one
    return int("".join(map(str, digits[-width:])), 2)


def plain_format_word(level, mask):
    product = 1024 * (8 * NUMBERS[level] + mask)
    return (product + plain_remainder(product, 1335, 10)) ^ 21522


def plain_version_word(version):
    product = 4096 * version
    return product + plain_remainder(product, 7973, 12)


def plain_distance(first, second):
    return sum((first >> i & 1) != (second >> i & 1) for i in range(40))


WORDS = {one: plain_format_word(*one) for one in FORMATS}


def least_distance(word):
    return min(plain_distance(word, one) for one in WORDS.values())


def some_word_at(least, chance):
    """A word of 15 bits at that distance from the nearest format word."""
    while True:
        word = chance.randrange(1 << 15)
        if least_distance(word) == least:
            return word


def flipped(word, places):
    for place in places:
        word ^= 1 << place
    return word


def some_flips(chance, width, many):
    return chance.sample(range(width), many)


def flips_of(width, most):
    for many in range(most + 1):
        yield from itertools.combinations(range(width), many)


class FormatWords(unittest.TestCase):

    def test_the_examples_of_the_interface(self):
        self.assertEqual(
            [format_word("H", 6), format_word("Q", 1), version_word(23), distance(12, 5)],
            [3340, 12392, 96236, 2])
        self.assertEqual(nearest_format(0, 12392 ^ 7), ("Q", 1))
        self.assertIs(version_agrees(23, 0, 96236 ^ 21), True)

    def test_all_format_words(self):
        for level, mask in FORMATS:
            with self.subTest(level, mask=mask):
                found = format_word(level, mask)
                self.assertIs(type(found), int)
                self.assertEqual(found, plain_format_word(level, mask))
                self.assertIn(found, range(1 << 15))

    def test_some_format_words_as_numbers(self):
        # The format value 0 has no remainder; "M" with mask 5 is the example of the standard.
        self.assertEqual(format_word("M", 0), 21522)
        self.assertEqual(format_word("M", 5), 0b100000011001110)
        self.assertEqual(format_word("L", 0), 0b111011111000100)
        self.assertEqual(format_word("H", 7), 0b000100000111011)
        self.assertEqual(format_word("Q", 7), 0b010101111101101)

    def test_the_format_value_stands_in_front(self):
        for level, mask in FORMATS:
            self.assertEqual((format_word(level, mask) ^ 21522) // 1024, 8 * NUMBERS[level] + mask)

    def test_the_distance_of_any_two(self):
        words = [format_word(*one) for one in FORMATS]
        distances = [plain_distance(a, b) for a, b in itertools.combinations(words, 2)]
        self.assertEqual(len(distances), 496)
        self.assertGreaterEqual(min(distances), 7)


class VersionWords(unittest.TestCase):

    def test_all_version_words(self):
        for version in VERSIONS:
            with self.subTest(version):
                found = version_word(version)
                self.assertIs(type(found), int)
                self.assertEqual(found, plain_version_word(version))
                self.assertEqual(found // 4096, version)

    def test_some_version_words_as_numbers(self):
        self.assertEqual(version_word(7), 0x07C94)
        self.assertEqual(version_word(8), 0x085BC)
        self.assertEqual(version_word(31), 0x1F250)
        self.assertEqual(version_word(32), 0x209D5)
        self.assertEqual(version_word(40), 0x28C69)

    def test_the_distance_of_any_two(self):
        words = [version_word(version) for version in VERSIONS]
        distances = [plain_distance(a, b) for a, b in itertools.combinations(words, 2)]
        self.assertEqual(len(distances), 34 * 33 // 2)
        self.assertGreaterEqual(min(distances), 8)


class Distance(unittest.TestCase):

    def test_small_integers(self):
        for a in range(64):
            for b in range(64):
                found = distance(a, b)
                self.assertIs(type(found), int)
                self.assertEqual(found, plain_distance(a, b))

    def test_equal_integers(self):
        for one in (0, 1, 2, 255, 1 << 17, 10 ** 50):
            self.assertEqual(distance(one, one), 0)

    def test_from_0(self):
        self.assertEqual([distance(0, 0), distance(0, 1), distance(7, 0), distance(0, 32767)], [0, 1, 3, 15])

    def test_large_integers(self):
        for width in (31, 32, 33, 63, 64, 65, 128, 1000, 20000):
            self.assertEqual(distance(0, (1 << width) - 1), width)
            self.assertEqual(distance(1 << width, 0), 1)
            self.assertEqual(distance(1 << width, 1), 2)
            self.assertEqual(distance((1 << width) + 5, (1 << width) + 6), 2)
            self.assertEqual(distance((1 << width) - 1, (1 << 2 * width) - 1), width)

    def test_integers_of_different_lengths(self):
        chance = random.Random(1)
        for _ in range(500):
            a = chance.getrandbits(chance.randrange(1, 39))
            b = chance.getrandbits(chance.randrange(1, 39))
            self.assertEqual(distance(a, b), plain_distance(a, b))


class NearestFormat(unittest.TestCase):

    def assert_nearest(self, first, second, expected):
        found = nearest_format(first, second)
        self.assertIs(type(found), tuple)
        self.assertEqual(found, expected)
        self.assertEqual([type(one) for one in found], [str, int])

    def assert_invalid(self, first, second):
        with self.assertRaises(InvalidFormat) as found:
            nearest_format(first, second)
        self.assertIs(type(found.exception), InvalidFormat)
        self.assertEqual([found.exception.place, found.exception.name], [0, "InvalidFormat"])

    def setUp(self):
        self.chance = random.Random(2)
        self.far = [some_word_at(least, self.chance) for least in (4, 4, 5)]

    def test_undamaged_copies(self):
        for one in FORMATS:
            self.assert_nearest(WORDS[one], WORDS[one], one)
            for far in self.far:
                self.assert_nearest(WORDS[one], far, one)
                self.assert_nearest(far, WORDS[one], one)

    def test_up_to_three_changed_bits_in_either_copy(self):
        far = self.far[0]
        for one in FORMATS:
            for many in (1, 2, 3):
                for _ in range(6):
                    word = flipped(WORDS[one], some_flips(self.chance, 15, many))
                    self.assert_nearest(word, far, one)
                    self.assert_nearest(far, word, one)

    def test_all_changes_of_up_to_three_bits(self):
        far = self.far[0]
        for one in (("M", 0), ("H", 7)):
            for places in flips_of(15, 3):
                word = flipped(WORDS[one], places)
                self.assert_nearest(word, far, one)
                self.assert_nearest(far, word, one)

    def test_of_two_equally_near_copies_the_first_is_chosen(self):
        for many in range(4):
            for one, other in itertools.permutations(self.chance.sample(FORMATS, 6), 2):
                first = flipped(WORDS[one], some_flips(self.chance, 15, many))
                second = flipped(WORDS[other], some_flips(self.chance, 15, many))
                self.assert_nearest(first, second, one)

    def test_the_nearer_copy_is_chosen(self):
        for fewer, more in itertools.combinations(range(4), 2):
            for one, other in itertools.permutations(self.chance.sample(FORMATS, 5), 2):
                near = flipped(WORDS[one], some_flips(self.chance, 15, fewer))
                less_near = flipped(WORDS[other], some_flips(self.chance, 15, more))
                self.assert_nearest(near, less_near, one)
                self.assert_nearest(less_near, near, one)

    def test_more_than_three_changed_bits_in_both_copies(self):
        for first in self.far:
            for second in self.far:
                self.assert_invalid(first, second)
        for _ in range(20):
            self.assert_invalid(some_word_at(4, self.chance), some_word_at(4, self.chance))

    def test_any_two_words(self):
        for _ in range(300):
            first = self.chance.randrange(1 << 15)
            second = self.chance.randrange(1 << 15)
            least = min(least_distance(first), least_distance(second))
            if least > 3:
                self.assert_invalid(first, second)
            else:
                chosen = first if least_distance(first) == least else second
                near = [one for one in FORMATS if plain_distance(chosen, WORDS[one]) == least]
                self.assertEqual(len(near), 1)
                self.assert_nearest(first, second, near[0])

    def test_the_least_and_the_greatest_word(self):
        for first in (0, 32767):
            for second in (0, 32767):
                if min(least_distance(first), least_distance(second)) > 3:
                    self.assert_invalid(first, second)


class VersionAgrees(unittest.TestCase):

    def assert_agrees(self, version, first, second, expected):
        self.assertIs(version_agrees(version, first, second), expected)

    def test_up_to_three_wrong_bits_in_either_copy(self):
        chance = random.Random(3)
        for version in VERSIONS:
            word = plain_version_word(version)
            far = flipped(word, some_flips(chance, 18, 4))
            for many in range(4):
                for _ in range(20):
                    near = flipped(word, some_flips(chance, 18, many))
                    self.assert_agrees(version, near, far, True)
                    self.assert_agrees(version, far, near, True)
                    self.assert_agrees(version, near, near, True)
                    self.assert_agrees(version, near, word ^ 0x3FFFF, True)
                    self.assert_agrees(version, word ^ 0x3FFFF, near, True)

    def test_four_wrong_bits_and_more_in_both_copies(self):
        chance = random.Random(4)
        for version in VERSIONS:
            word = plain_version_word(version)
            for first in (4, 5, 9, 18):
                for second in (4, 7, 18):
                    self.assert_agrees(
                        version,
                        flipped(word, some_flips(chance, 18, first)),
                        flipped(word, some_flips(chance, 18, second)),
                        False)

    def test_all_changes_of_three_and_of_four_bits(self):
        word = plain_version_word(19)
        for places in itertools.combinations(range(18), 3):
            self.assert_agrees(19, flipped(word, places), 0, True)
        for places in itertools.combinations(range(18), 4):
            self.assert_agrees(19, flipped(word, places), flipped(word, places), False)

    def test_the_words_of_other_versions(self):
        for version in VERSIONS:
            for other in VERSIONS:
                word = plain_version_word(other)
                self.assert_agrees(version, word, word, version == other)

    def test_the_copies_are_not_mixed(self):
        word = plain_version_word(30)
        self.assert_agrees(30, word ^ 0b1111, word ^ 0b11110000, False)


if __name__ == "__main__":
    unittest.main()
