"""Promises 10.2, 11.6 and 13.1 to 13.5, and 00.1 to 00.3 over the whole program."""

import itertools
import random
import unittest

from dotfield import errors
from dotfield.bits import BitReader, BitWriter
from dotfield.pictures import paint, scan
from dotfield.reading import Reading, read
from dotfield.sequence import encode_message, join, read_message
from dotfield.symbol import Symbol, data_list, draw, encode, encode_segments, word_list
from dotfield.turning import find_turn, mirrored, read_turned, turned
from tests import plain
from tests.test_layout import plain_format_places, plain_version_places
from tests.test_reading import damage_blocks, damage_functions, damage_remaining, flip, put
from tests.test_segments import all_lists, best_by_trying, plain_bits, plain_cost, some_text
from tests.test_turning import CORNERS, plain_corner_count, with_four_finders
from tests.test_words import least_distance

TEXTS = (
    [], [0], [48], [65], [255], list(b"HELLO WORLD"), list(b"https://example.org/?q=1234567890"),
    list(b"Dotfield: QR codes, 0123456789, ABCDEFGHIJ"), list(range(256))[::5],
)


def copy_of(grid):
    return [list(row) for row in grid]


def read_parts(found):
    return [found.version, found.level, found.mask, found.header, found.segments, found.text]


def parts_of(symbol, text):
    return [symbol.version, symbol.level, symbol.mask, symbol.header, symbol.segments, text]


def flips_of(chance, places, most):
    return chance.sample(places, chance.randrange(most + 1))


class WholeWay(unittest.TestCase):
    """13.1."""

    def test_each_text_level_and_mask(self):
        for text in TEXTS:
            for level in plain.LEVELS:
                for mask in (None, *plain.MASKS):
                    symbol = encode(text, level=level, mask=mask)
                    found = read(symbol.grid)
                    self.assertEqual(read_parts(found), parts_of(symbol, text))
                    self.assertEqual(set(found.changed), {0})

    def test_headers_and_versions(self):
        chance = random.Random(81)
        for version in plain.VERSIONS:
            text = some_text(chance, chance.randrange(7))
            header = chance.choice((None, (0, 1, 9), (15, 16, 0)))
            level = chance.choice(plain.LEVELS)
            symbol = encode(text, level=level, least=version, header=header, mask=chance.choice(plain.MASKS))
            self.assertEqual(read_parts(read(symbol.grid)), parts_of(symbol, text))
            self.assertEqual([symbol.version, symbol.header, symbol.level], [version, header, level])

    def test_long_texts(self):
        chance = random.Random(82)
        for length in (255, 256, 700, 2047):
            text = some_text(chance, length)
            symbol = encode(text, level="L")
            self.assertEqual(read_parts(read(symbol.grid)), parts_of(symbol, text))

    def test_no_list_of_segments_has_fewer_bits(self):
        chance = random.Random(83)
        for _ in range(40):
            text = some_text(chance, chance.randrange(1, 7))
            symbol = encode(text, least=chance.choice((1, 10, 27)), mask=0)
            bits = len(plain_bits(symbol.segments, symbol.version))
            for segments in all_lists(text):
                cost = sum(plain_cost(mode, len(content), symbol.version) for mode, content in segments)
                self.assertGreaterEqual(cost, bits)

    def test_every_smaller_version_has_no_room(self):
        chance = random.Random(84)
        for _ in range(25):
            text = some_text(chance, chance.randrange(10, 120))
            level = chance.choice(plain.LEVELS)
            header = chance.choice((None, (1, 2, 3)))
            symbol = encode(text, level=level, header=header, mask=0)
            for version in range(1, symbol.version):
                bits = len(plain_bits(best_by_trying(text, version), version)) + (0 if header is None else 20)
                self.assertGreater(bits, plain.room(version, level))


class Damage(unittest.TestCase):
    """10.2 and 13.2."""

    def damaged(self, symbol, chance, many):
        """A grid with as many changed words in each block as the list says, and all else that is allowed."""
        version, level = symbol.version, symbol.level
        grid = copy_of(symbol.grid)
        damage_functions(grid, version, chance)
        damage_blocks(grid, version, level, chance, many)
        damage_remaining(grid, version)
        for places in plain_format_places(version):
            flip(grid, flips_of(chance, places, 3))
        if version >= 7:
            near, far = chance.sample(plain_version_places(version), 2)
            flip(grid, flips_of(chance, near, 3))
            flip(grid, flips_of(chance, far, 18))
        return grid

    def test_all_that_is_allowed_at_once(self):
        chance = random.Random(85)
        for version in plain.VERSIONS:
            level = chance.choice(plain.LEVELS)
            text = some_text(chance, 6)
            header = chance.choice((None, (0, 2, 255)))
            symbol = encode(text, level=level, least=version, mask=chance.choice(plain.MASKS), header=header)
            version = symbol.version
            most = plain.check_count(version, level) // 2
            blocks = len(plain.block_lengths(version, level))
            for many in ([most] * blocks, [chance.randrange(most + 1) for _ in range(blocks)], [0] * blocks):
                found = read(self.damaged(symbol, chance, many))
                self.assertEqual(read_parts(found), parts_of(symbol, text))
                self.assertEqual(found.changed, many)

    def test_small_versions_often(self):
        chance = random.Random(86)
        for _ in range(100):
            level = chance.choice(plain.LEVELS)
            text = some_text(chance, chance.randrange(12))
            symbol = encode(text, level=level, least=chance.choice((1, 2, 3, 5, 7)), mask=chance.choice(plain.MASKS))
            most = plain.check_count(symbol.version, level) // 2
            many = [chance.randrange(most + 1) for _ in plain.block_lengths(symbol.version, level)]
            found = read(self.damaged(symbol, chance, many))
            self.assertEqual(read_parts(found) + [found.changed], parts_of(symbol, text) + [many])

    def test_one_copy_of_the_format_word_is_lost(self):
        # The other copy is far from every format word; three bits of the first one are wrong.
        chance = random.Random(87)
        words = [chance.randrange(1 << 15) for _ in range(200)]
        far = [word for word in words if least_distance(word) > 3]
        for version in (1, 7):
            symbol = encode([1, 2, 3], level="Q", least=version, mask=5)
            for lost, near in itertools.permutations(plain_format_places(version)):
                for _ in range(20):
                    grid = copy_of(symbol.grid)
                    put(grid, lost, chance.choice(far))
                    flip(grid, chance.sample(near, 3))
                    self.assertEqual(read_parts(read(grid)), parts_of(symbol, [1, 2, 3]))

    def test_each_module_alone(self):
        symbol = encode([1, 2, 3], level="L", mask=1)
        places = plain.places_of(1)
        for i in range(21):
            for j in range(21):
                grid = copy_of(symbol.grid)
                grid[i][j] ^= 1
                found = read(grid)
                self.assertEqual(read_parts(found), parts_of(symbol, [1, 2, 3]))
                self.assertEqual(found.changed, [int((i, j) in places)])


class Differences(unittest.TestCase):
    """13.3."""

    def test_two_symbols_with_different_data_words(self):
        chance = random.Random(88)
        for version, level in ((1, "L"), (1, "M"), (1, "H"), (3, "H"), (5, "Q"), (7, "M")):
            size = plain.room(version, level) // 8
            most = plain.check_count(version, level) // 2
            for _ in range(15):
                first = [chance.randrange(256) for _ in range(size)]
                second = list(first)
                for place in chance.sample(range(size), chance.randrange(1, 4)):
                    second[place] ^= chance.randrange(1, 256)
                differences = []
                for one, other in zip(plain.blocks_of(first, version, level), plain.blocks_of(second, version, level)):
                    pairs = zip(one[0] + one[1], other[0] + other[1])
                    differences.append(sum(a != b for a, b in pairs))
                self.assertGreater(max(differences), 2 * most)
                words = [word_list(data, version, level) for data in (first, second)]
                self.assertEqual(sum(a != b for a, b in zip(*words)), sum(differences))


class Turns(unittest.TestCase):
    """13.4."""

    def test_each_turn_of_a_symbol(self):
        chance = random.Random(89)
        for text in TEXTS:
            symbol = encode(text, level=chance.choice(plain.LEVELS), least=chance.choice((1, 2, 7)))
            self.assertGreater(plain_corner_count(symbol.grid, CORNERS[3]), 0)
            grid = copy_of(symbol.grid)
            damage_blocks(grid, symbol.version, symbol.level, chance, [1] * len(read(grid).changed))
            expected = read(grid)
            for quarters in range(4):
                self.assertEqual(find_turn(turned(grid, quarters)), (4 - quarters) % 4)
                self.assertEqual(read_turned(turned(grid, quarters)), expected)

    def test_a_finder_at_the_bottom_right(self):
        # No text that fits version 1 has such words, so these data words are no segments.
        for mask in plain.MASKS:
            grid = with_four_finders("L", mask)
            self.assertEqual(plain_corner_count(grid, CORNERS[3]), 0)
            for quarters in range(4):
                with self.assertRaises(errors.AmbiguousTurn) as found:
                    read_turned(turned(grid, quarters))
                self.assertIs(type(found.exception), errors.AmbiguousTurn)
                self.assertEqual(found.exception.place, 0)


class Pictures(unittest.TestCase):
    """11.6 and 13.5."""

    def test_a_scanned_symbol_is_read(self):
        chance = random.Random(90)
        for text in TEXTS:
            symbol = encode(text)
            for scale, quiet in ((1, 0), (1, 4), (3, 2), (4, 4)):
                dark = chance.randrange(255)
                light = chance.randrange(dark + 1, 256)
                picture = paint(symbol.grid, scale=scale, quiet=quiet, dark=dark, light=light)
                self.assertEqual(scan(picture), symbol.grid)
                self.assertEqual(read(scan(picture)).text, text)

    def test_a_damaged_symbol_with_intact_finders(self):
        chance = random.Random(91)
        symbol = encode(list(b"damaged"), level="H", least=7)
        grid = copy_of(symbol.grid)
        damage_blocks(grid, 7, "H", chance, [13] * 5)
        for scale in (1, 2, 5):
            found = read(scan(paint(grid, scale=scale)))
            self.assertEqual([found.text, found.changed], [list(b"damaged"), [13] * 5])


class Messages(unittest.TestCase):
    """13.5."""

    def test_a_divided_message(self):
        chance = random.Random(92)
        for text in TEXTS:
            for count in (1, 2, 5, 16):
                grids = [symbol.grid for symbol in encode_message(text, count, level=chance.choice(plain.LEVELS))]
                chance.shuffle(grids)
                self.assertEqual(read_message(grids), text)

    def test_over_pictures_and_turns(self):
        chance = random.Random(93)
        text = list(b"A message, painted, turned and damaged.")
        pairs = []
        for symbol in encode_message(text, 4, level="Q"):
            grid = copy_of(symbol.grid)
            damage_blocks(grid, symbol.version, "Q", chance, [5])
            picture = paint(grid, scale=2)
            found = read_turned(scan(picture))
            self.assertEqual(read_turned(turned(scan(picture), 3)), found)
            pairs.append((found.header, found.text))
        self.assertEqual(join(pairs[::-1]), text)


class Errors(unittest.TestCase):
    """00.3."""

    def test_every_class_is_derived_from_the_base_class_alone(self):
        classes = [one for one in vars(errors).values() if isinstance(one, type)]
        self.assertEqual(len(classes), 12)
        for one in classes:
            if one is not errors.DotfieldError:
                self.assertEqual(one.__bases__, (errors.DotfieldError,))

    def test_objects_are_equal_to_no_value_of_another_class(self):
        symbol = encode([1], mask=0)
        values = [
            symbol, read(symbol.grid), BitWriter(), BitReader([]), errors.TooLong(0), errors.NotASymbol(0),
            errors.DotfieldError(0), None, 0, "", [], (), {}, symbol.grid, [1], ValueError(0),
        ]
        for first, second in itertools.permutations(values, 2):
            self.assertIs(first == second, False)
            self.assertIs(first != second, True)
        self.assertEqual([type(values[0]), type(values[1])], [Symbol, Reading])


class Answers(unittest.TestCase):
    """00.1: what is returned may be changed, and nothing is remembered."""

    def test_the_same_answers_again(self):
        def answers():
            symbol = encode(list(b"again 12345"), level="L")
            segments = encode_segments([("byte", [1, 2])], mask=0)
            data = data_list(symbol.segments, 1, "L")
            words = word_list(data, 1, "L")
            found = read(symbol.grid)
            return [
                symbol.segments, symbol.grid, segments.segments, segments.grid, data, words, draw(words, 1, "L", 0),
                found.segments, found.text, found.changed, turned(symbol.grid, 0), mirrored(symbol.grid),
                paint(symbol.grid), scan(paint(symbol.grid)),
            ]
        expected = answers()
        for one in answers():
            for row in one:
                if isinstance(row, list):
                    row.clear()
                if isinstance(row, tuple):
                    row[1].clear()
            one.clear()
        self.assertEqual(answers(), expected)


if __name__ == "__main__":
    unittest.main()
