"""Promises 03.1 to 03.4, and the interface of dotfield.reed."""

import itertools
import random
import unittest

from dotfield.errors import TooDamaged
from dotfield.reed import check_words, correct, generator, is_codeword
from tests.test_gf import POWERS

LOGARITHMS = {element: n for n, element in enumerate(POWERS)}
COUNTS = range(1, 69)


def plain_product(a, b):
    if a == 0 or b == 0:
        return 0
    return POWERS[(LOGARITHMS[a] + LOGARITHMS[b]) % 255]


def plain_value(words, x):
    """Horner's scheme, without the package."""
    value = 0
    for word in words:
        value = plain_product(value, x) ^ word
    return value


def plain_is_codeword(words, count):
    return len(words) > count and all(plain_value(words, POWERS[i]) == 0 for i in range(count))


def plain_check_words(data, count):
    """A shift register: each data word in turn enters at the front."""
    factors = generator(count)[1:]
    rest = [0] * count
    for word in data:
        front = word ^ rest[0]
        rest = [a ^ plain_product(front, b) for a, b in zip(rest[1:] + [0], factors)]
    return rest


def plain_distance(first, second):
    return sum(a != b for a, b in zip(first, second, strict=True))


def some_codeword(chance, length, count):
    data = [chance.randrange(256) for _ in range(length - count)]
    return data + plain_check_words(data, count)


def changed(chance, words, places):
    found = list(words)
    for place in places:
        found[place] ^= chance.randrange(1, 256)
    return found


class Case(unittest.TestCase):

    def assert_elements(self, found, expected):
        self.assertIs(type(found), list)
        self.assertEqual(found, expected)
        self.assertTrue(all(type(one) is int for one in found))

    def assert_corrected(self, words, count, codeword):
        kept = list(words)
        found = correct(words, count)
        self.assertIs(type(found), tuple)
        self.assertEqual(len(found), 2)
        self.assert_elements(found[0], codeword)
        self.assertIs(type(found[1]), int)
        self.assertEqual(found[1], plain_distance(kept, codeword))
        self.assertEqual(words, kept)
        self.assertIsNot(found[0], words)

    def assert_too_damaged(self, words, count):
        kept = list(words)
        with self.assertRaises(TooDamaged) as found:
            correct(words, count)
        self.assertIs(type(found.exception), TooDamaged)
        self.assertEqual([found.exception.place, found.exception.name], [0, "TooDamaged"])
        self.assertEqual(words, kept)


class Generators(Case):

    def test_the_example_of_the_interface(self):
        self.assertEqual(
            [generator(2), check_words([1], 2), check_words([1, 2, 3], 4)],
            [[1, 3, 2], [3, 2], [139, 243, 142, 246]])

    def test_coefficients_and_roots_for_every_count(self):
        for count in COUNTS:
            with self.subTest(count):
                found = generator(count)
                self.assertIs(type(found), list)
                self.assertEqual([found[0], len(found)], [1, count + 1])
                self.assertTrue(all(type(one) is int and 0 <= one < 256 for one in found))
                zeros = [n for n in range(255) if plain_value(found, POWERS[n]) == 0]
                self.assertEqual(zeros, list(range(count)))
                self.assertNotEqual(plain_value(found, 0), 0)

    def test_it_is_a_codeword(self):
        for count in COUNTS:
            self.assertTrue(plain_is_codeword(generator(count), count))

    def test_the_list_is_new(self):
        for count in COUNTS:
            expected = generator(count)
            found = generator(count)
            found[0] = 77
            found.append(5)
            self.assertEqual(generator(count), expected)


class CheckWords(Case):

    def test_one_data_word_for_every_count(self):
        for count in COUNTS:
            with self.subTest(count):
                self.assert_elements(check_words([1], count), generator(count)[1:])
                for word in (0, 2, 142, 255):
                    expected = [plain_product(word, one) for one in generator(count)[1:]]
                    self.assert_elements(check_words([word], count), expected)

    def test_255_words_in_all_for_every_count(self):
        chance = random.Random(1)
        for count in COUNTS:
            with self.subTest(count):
                data = [chance.randrange(256) for _ in range(255 - count)]
                found = check_words(data, count)
                self.assert_elements(found, plain_check_words(data, count))
                self.assertEqual(len(found), count)
                self.assertTrue(plain_is_codeword(data + found, count))

    def test_lengths_between(self):
        chance = random.Random(2)
        for count in (1, 2, 3, 7, 10, 13, 17, 26, 30, 68):
            for length in (1, 2, 3, 9, 15, 16, 40, 118):
                data = [chance.randrange(256) for _ in range(length)]
                found = check_words(data, count)
                self.assert_elements(found, plain_check_words(data, count))
                self.assertTrue(plain_is_codeword(data + found, count))

    def test_zeros_everywhere(self):
        for count in COUNTS:
            for length in (1, 2, 20, 255 - count):
                self.assert_elements(check_words([0] * length, count), [0] * count)

    def test_zeros_in_front_change_nothing(self):
        for count in COUNTS:
            for zeros in (1, 2, 30):
                data = [9, 0, 255, 1]
                self.assert_elements(check_words([0] * zeros + data, count), check_words(data, count))

    def test_zeros_behind_change_the_check_words(self):
        self.assertNotEqual(check_words([9, 4, 0], 5), check_words([9, 4], 5))

    def test_the_data_words_stay_and_the_list_is_new(self):
        data = [3, 0, 5]
        found = check_words(data, 4)
        expected = list(found)
        found[0] = 300
        found.append(1)
        self.assertEqual(data, [3, 0, 5])
        self.assertEqual(check_words(data, 4), expected)


class IsCodeword(Case):

    def test_data_words_with_their_check_words(self):
        chance = random.Random(3)
        for count in COUNTS:
            for length in (count + 1, count + 2, 100, 255):
                with self.subTest(count, length=length):
                    self.assertIs(is_codeword(some_codeword(chance, length, count), count), True)

    def test_one_word_changed(self):
        chance = random.Random(4)
        for count in (1, 2, 3, 10, 68):
            codeword = some_codeword(chance, count + 20, count)
            for place in range(len(codeword)):
                for change in (1, 2, 128, 255):
                    words = list(codeword)
                    words[place] ^= change
                    self.assertIs(is_codeword(words, count), False)

    def test_not_more_words_than_the_count(self):
        for count in COUNTS:
            for length in range(1, count + 1):
                self.assertIs(is_codeword([0] * length, count), False)
            self.assertIs(is_codeword([0] * (count + 1), count), True)

    def test_roots_at_0_to_count_minus_1_only(self):
        for count in range(1, 68):
            self.assertIs(is_codeword(generator(count), count), True)
            self.assertIs(is_codeword(generator(count) + [0], count), True)
            self.assertIs(is_codeword(generator(count) + [0], count + 1), False)
            self.assertIs(is_codeword(generator(count + 1), count), True)

    def test_each_root_is_needed(self):
        for count in (1, 2, 5, 20):
            for missing in range(count):
                words = [1]
                for i in range(count + 3):
                    if i != missing:
                        words = [a ^ plain_product(POWERS[i], b) for a, b in zip(words + [0], [0] + words)]
                self.assertIs(is_codeword(words, count), False)

    def test_some_words_against_the_definition(self):
        chance = random.Random(5)
        for count in (1, 2, 3):
            for _ in range(400):
                words = [chance.randrange(4) for _ in range(chance.randrange(1, 6))]
                self.assertIs(is_codeword(words, count), plain_is_codeword(words, count))

    def test_the_words_stay(self):
        words = [1, 3, 2]
        is_codeword(words, 2)
        self.assertEqual(words, [1, 3, 2])


class Correct(Case):

    def test_the_examples_of_the_interface(self):
        self.assertEqual(correct([1, 2, 9, 139, 243, 0, 246], 4), ([1, 2, 3, 139, 243, 142, 246], 2))
        self.assertEqual(correct([1, 0, 0], 2), ([0, 0, 0], 1))

    def test_no_change(self):
        chance = random.Random(6)
        for count in COUNTS:
            for length in (count + 1, 90, 255):
                codeword = some_codeword(chance, length, count)
                self.assert_corrected(codeword, count, codeword)

    def test_as_many_changes_as_are_corrected(self):
        chance = random.Random(7)
        for count in COUNTS:
            for length in (count + 1, min(count + 37, 255), 255):
                with self.subTest(count, length=length):
                    codeword = some_codeword(chance, length, count)
                    words = changed(chance, codeword, chance.sample(range(length), count // 2))
                    self.assertEqual(plain_distance(words, codeword), count // 2)
                    self.assert_corrected(words, count, codeword)

    def test_every_number_of_changes_up_to_that(self):
        chance = random.Random(8)
        for count, length in ((8, 20), (9, 20), (17, 26), (30, 60), (30, 150), (68, 255), (67, 68)):
            codeword = some_codeword(chance, length, count)
            for changes in range(count // 2 + 1):
                with self.subTest(count, length=length, changes=changes):
                    words = changed(chance, codeword, chance.sample(range(length), changes))
                    self.assert_corrected(words, count, codeword)

    def test_the_first_and_the_last_words(self):
        chance = random.Random(9)
        for count in (2, 3, 4, 5, 10, 17, 30, 68):
            for length in (count + 1, 100, 255):
                codeword = some_codeword(chance, length, count)
                changes = count // 2
                for places in ([0], [length - 1], range(changes), range(length - changes, length),
                               [0] * (changes > 1) + [length - 1]):
                    with self.subTest(count, length=length, places=list(places)):
                        self.assert_corrected(changed(chance, codeword, places), count, codeword)

    def test_each_place_and_each_change(self):
        codeword = [1, 2, 3] + plain_check_words([1, 2, 3], 2)
        for place in range(5):
            for change in range(1, 256):
                words = list(codeword)
                words[place] ^= change
                self.assert_corrected(words, 2, codeword)

    def test_each_place_of_255(self):
        chance = random.Random(10)
        codeword = some_codeword(chance, 255, 3)
        for place in range(255):
            self.assert_corrected(changed(chance, codeword, [place]), 3, codeword)

    def test_each_two_and_three_places(self):
        chance = random.Random(11)
        codeword = some_codeword(chance, 12, 6)
        for many in (2, 3):
            for places in itertools.combinations(range(12), many):
                self.assert_corrected(changed(chance, codeword, places), 6, codeword)

    def test_equal_changes(self):
        chance = random.Random(12)
        codeword = some_codeword(chance, 40, 10)
        for change in (1, 85, 255):
            words = [word ^ change if place in (0, 7, 8, 20, 39) else word for place, word in enumerate(codeword)]
            self.assert_corrected(words, 10, codeword)

    def test_zeros_everywhere(self):
        chance = random.Random(13)
        for count in COUNTS:
            for length in (count + 1, 255):
                words = changed(chance, [0] * length, chance.sample(range(length), count // 2))
                self.assert_corrected(words, count, [0] * length)

    def test_one_data_word_and_all_changes_in_the_check_words(self):
        chance = random.Random(14)
        codeword = some_codeword(chance, 69, 68)
        self.assert_corrected(changed(chance, codeword, range(1, 35)), 68, codeword)
        self.assert_corrected(changed(chance, codeword, range(35, 69)), 68, codeword)

    def test_one_check_word_corrects_nothing(self):
        self.assert_corrected([7, 7], 1, [7, 7])
        self.assert_corrected([0, 0], 1, [0, 0])
        self.assert_corrected([1, 2, 3], 1, [1, 2, 3])
        self.assert_too_damaged([7, 6], 1)
        self.assert_too_damaged([1, 0], 1)
        self.assert_too_damaged([0, 1], 1)
        chance = random.Random(15)
        codeword = some_codeword(chance, 255, 1)
        self.assert_corrected(codeword, 1, codeword)
        for place in range(255):
            self.assert_too_damaged(changed(chance, codeword, [place]), 1)

    def test_one_change_too_many_of_an_odd_count(self):
        # The distance of two codewords is at least count + 1, so none is near enough.
        chance = random.Random(16)
        for count in range(1, 69, 2):
            for length in (count + 1, 120, 255):
                codeword = some_codeword(chance, length, count)
                places = chance.sample(range(length), count // 2 + 1)
                self.assert_too_damaged(changed(chance, codeword, places), count)

    def test_many_changes(self):
        chance = random.Random(17)
        raised = 0
        for count in (2, 4, 6, 7, 16, 68):
            for length in (count + 1, count + 9, 255):
                codeword = some_codeword(chance, length, count)
                for changes in (count // 2 + 1, count, min(length, count + 5)):
                    words = changed(chance, codeword, chance.sample(range(length), changes))
                    raised += self.assert_near_or_too_damaged(words, count)
        self.assertGreater(raised, 20)

    def assert_near_or_too_damaged(self, words, count):
        """The correction must be near; whether one is missed, the tests by trying all tell."""
        try:
            codeword, told = correct(words, count)
        except TooDamaged:
            self.assert_too_damaged(words, count)
            return 1
        self.assertTrue(plain_is_codeword(codeword, count))
        self.assertEqual(told, plain_distance(words, codeword))
        self.assertLessEqual(told, count // 2)
        return 0

    def test_a_change_in_front_of_the_first_word_is_none(self):
        # The check words alone look like those of one change at a place that does not exist.
        for count in (2, 3):
            for length in (count + 1, 20, 254):
                for exponent in (length, (length + 254) // 2, 254):
                    behind = check_words([77] + [0] * (exponent - count), count)
                    self.assert_too_damaged([0] * (length - count) + behind, count)

    def test_one_data_word_against_all_codewords(self):
        chance = random.Random(18)
        for count in (1, 2, 3, 4, 5, 6):
            codewords = [[a] + plain_check_words([a], count) for a in range(256)]
            words = [[chance.randrange(256) for _ in range(count + 1)] for _ in range(150)]
            for codeword in codewords[::16]:
                for changes in range(1, count + 1):
                    words.append(changed(chance, codeword, chance.sample(range(count + 1), changes)))
            self.assert_as_tried(words, count, codewords)

    def assert_as_tried(self, all_words, count, codewords):
        outcomes = {True: 0, False: 0}
        for words in all_words:
            near = [one for one in codewords if plain_distance(one, words) <= count // 2]
            self.assertLessEqual(len(near), 1)
            if near:
                self.assert_corrected(words, count, near[0])
            else:
                self.assert_too_damaged(words, count)
            outcomes[bool(near)] += 1
        self.assertGreater(outcomes[False], 9)
        self.assertGreater(outcomes[True] + (count == 1), 0)

    def test_short_words_against_all_single_changes(self):
        chance = random.Random(19)
        for count in (2, 3):
            for length in range(count + 1, count + 4):
                for _ in range(40):
                    codeword = some_codeword(chance, length, count)
                    words = changed(chance, codeword, chance.sample(range(length), 2))
                    self.assert_as_single_changes_tell(words, count)

    def assert_as_single_changes_tell(self, words, count):
        near = [words] if plain_is_codeword(words, count) else []
        for place in range(len(words)):
            rest = plain_value(words, 1)
            # Only this change makes the value at power(0) zero.
            one = words[:place] + [words[place] ^ rest] + words[place + 1:]
            if rest != 0 and plain_is_codeword(one, count):
                near.append(one)
        if near:
            self.assert_corrected(words, count, near[0])
        else:
            self.assert_too_damaged(words, count)

    def test_the_returned_list_may_be_changed(self):
        words = [1, 2, 9, 139, 243, 0, 246]
        first, _ = correct(words, 4)
        first[0] = 1000
        first.clear()
        self.assertEqual(words, [1, 2, 9, 139, 243, 0, 246])
        self.assertEqual(correct(words, 4), ([1, 2, 3, 139, 243, 142, 246], 2))
        codeword = [1, 2, 3, 139, 243, 142, 246]
        second, _ = correct(codeword, 4)
        second[1] = 0
        self.assertEqual(codeword, [1, 2, 3, 139, 243, 142, 246])


if __name__ == "__main__":
    unittest.main()
