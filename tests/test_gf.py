"""Promises 02.1, 02.2 and 02.3, and the interface of dotfield.gf."""

import random
import unittest

from dotfield.gf import divide, evaluate, inverse, logarithm, multiply, multiply_polynomials, power

MODULUS = 0b100011101


def plain_product(a, b):
    """The whole product of two polynomials over two elements, then its remainder."""
    product = 0
    for i in range(8):
        for j in range(8):
            if a >> i & 1 and b >> j & 1:
                product ^= 1 << (i + j)
    for i in range(14, 7, -1):
        if product >> i & 1:
            product ^= MODULUS << (i - 8)
    return product


def plain_powers():
    powers = [1]
    while len(powers) < 255:
        powers.append(plain_product(powers[-1], 2))
    return powers


def plain_power(x, n):
    value = 1
    for _ in range(n):
        value = plain_product(value, x)
    return value


def plain_value(polynomial, x):
    """Each coefficient times its own power, not by Horner's scheme."""
    value = 0
    for k, coefficient in enumerate(reversed(polynomial)):
        value ^= plain_product(coefficient, plain_power(x, k))
    return value


def plain_polynomial_product(first, second):
    """The coefficients of each power in turn."""
    highest = len(first) - 1 + len(second) - 1
    found = []
    for exponent in range(highest, -1, -1):
        total = 0
        for i, a in enumerate(reversed(first)):
            for j, b in enumerate(reversed(second)):
                if i + j == exponent:
                    total ^= plain_product(a, b)
        found.append(total)
    return found


POWERS = plain_powers()


class Case(unittest.TestCase):

    def assert_integer(self, found, expected):
        self.assertIs(type(found), int)
        self.assertEqual(found, expected)

    def assert_integers(self, found, expected):
        self.assertIs(type(found), list)
        self.assertEqual(found, expected)
        self.assertTrue(all(type(one) is int for one in found))


class Products(Case):

    def test_the_example_of_the_interface(self):
        self.assertEqual(
            [multiply(2, 128), multiply(3, 7), power(8), power(-1), logarithm(29)],
            [29, 9, 29, 142, 8])

    def test_all_pairs(self):
        for a in range(256):
            for b in range(256):
                found = multiply(a, b)
                if type(found) is not int or found != plain_product(a, b):
                    self.fail(f"multiply({a}, {b}) is {found!r}")

    def test_0_and_1(self):
        for a in range(256):
            self.assert_integer(multiply(a, 0), 0)
            self.assert_integer(multiply(0, a), 0)
            self.assert_integer(multiply(a, 1), a)
            self.assert_integer(multiply(1, a), a)

    def test_the_inverse_of_each_but_0(self):
        for a in range(1, 256):
            found = inverse(a)
            self.assertIs(type(found), int)
            self.assertIn(found, range(1, 256))
            self.assertEqual(plain_product(found, a), 1)
        self.assert_integer(inverse(1), 1)
        self.assert_integer(inverse(2), 142)

    def test_divide_all_pairs(self):
        for b in range(1, 256):
            for a in range(256):
                found = divide(a, b)
                if type(found) is not int or found not in range(256) or plain_product(found, b) != a:
                    self.fail(f"divide({a}, {b}) is {found!r}")

    def test_divide_0_and_by_1_and_by_itself(self):
        for a in range(1, 256):
            self.assert_integer(divide(0, a), 0)
            self.assert_integer(divide(a, 1), a)
            self.assert_integer(divide(a, a), 1)
            self.assert_integer(divide(1, a), inverse(a))
        self.assert_integer(divide(0, 1), 0)


class PowersAndLogarithms(Case):

    def test_power_0(self):
        self.assert_integer(power(0), 1)

    def test_exponents_from_0_to_254(self):
        for n in range(255):
            self.assert_integer(power(n), POWERS[n])
        self.assertEqual(sorted(power(n) for n in range(255)), list(range(1, 256)))

    def test_exponents_of_255_and_more(self):
        self.assert_integer(power(255), 1)
        self.assert_integer(power(256), 2)
        for n in range(255, 1100):
            self.assert_integer(power(n), POWERS[n % 255])

    def test_each_power_is_twice_the_one_before(self):
        for n in range(-600, 600):
            self.assertEqual(power(n + 1), plain_product(power(n), 2))

    def test_negative_exponents(self):
        self.assert_integer(power(-1), 142)
        self.assert_integer(power(-254), 2)
        self.assert_integer(power(-255), 1)
        self.assert_integer(power(-256), 142)
        for n in range(1, 1100):
            self.assertEqual(plain_product(power(n), power(-n)), 1)
            self.assertIs(type(power(-n)), int)

    def test_very_large_exponents(self):
        for n in (10 ** 9, 2 ** 31, 2 ** 63, 2 ** 64, 10 ** 30, 255 * 10 ** 40, 255 * 10 ** 40 + 254):
            self.assert_integer(power(n), POWERS[n % 255])
            self.assert_integer(power(-n), POWERS[(255 - n % 255) % 255])

    def test_the_logarithm_of_each_but_0(self):
        for a in range(1, 256):
            found = logarithm(a)
            self.assertIs(type(found), int)
            self.assertIn(found, range(255))
            self.assertEqual(POWERS[found], a)
            self.assertEqual(power(found), a)

    def test_the_logarithm_of_each_power(self):
        for n in range(-300, 600):
            self.assert_integer(logarithm(power(n)), n % 255)
        self.assert_integer(logarithm(1), 0)
        self.assert_integer(logarithm(2), 1)
        self.assert_integer(logarithm(142), 254)


def some_polynomials(seed):
    chance = random.Random(seed)
    found = []
    for length in (1, 1, 2, 3, 4, 5, 8, 13):
        found.append([chance.randrange(256) for _ in range(length)])
    return found + [[0], [1], [255], [0, 0], [0, 0, 0, 7], [0, 5, 0, 0], [1, 0], [1, 0, 0, 0], [0, 0, 0]]


class Evaluating(Case):

    def test_the_example_of_the_interface(self):
        self.assertEqual(
            [evaluate([1, 0, 3], 2), multiply_polynomials([1, 1], [1, 2])],
            [7, [1, 3, 2]])

    def test_one_coefficient(self):
        for a in range(256):
            for x in (0, 1, 2, 77, 255):
                self.assert_integer(evaluate([a], x), a)

    def test_at_0_it_is_the_last_coefficient(self):
        for polynomial in some_polynomials(1):
            self.assert_integer(evaluate(polynomial, 0), polynomial[-1])

    def test_at_1_it_is_the_sum_of_the_coefficients(self):
        for polynomial in some_polynomials(2):
            total = 0
            for coefficient in polynomial:
                total ^= coefficient
            self.assert_integer(evaluate(polynomial, 1), total)

    def test_elsewhere(self):
        for polynomial in some_polynomials(3):
            for x in range(256):
                self.assert_integer(evaluate(polynomial, x), plain_value(polynomial, x))

    def test_the_first_coefficient_is_that_of_the_highest_power(self):
        self.assert_integer(evaluate([1, 0, 0], 2), 4)
        self.assert_integer(evaluate([0, 0, 1], 2), 1)
        self.assert_integer(evaluate([1, 0, 0, 0, 0, 0, 0, 0, 0], 2), 29)

    def test_zeros_in_front_and_everywhere(self):
        for x in range(256):
            self.assert_integer(evaluate([0, 0, 9, 4], x), evaluate([9, 4], x))
            self.assert_integer(evaluate([0], x), 0)
            self.assert_integer(evaluate([0, 0, 0, 0], x), 0)

    def test_255_coefficients(self):
        polynomial = [k for k in range(1, 256)]
        for x in (0, 1, 2, 3, 142, 255):
            self.assert_integer(evaluate(polynomial, x), plain_value(polynomial, x))

    def test_the_polynomial_is_not_changed(self):
        polynomial = [0, 3, 1, 0, 255]
        evaluate(polynomial, 0)
        evaluate(polynomial, 19)
        self.assertEqual(polynomial, [0, 3, 1, 0, 255])


class PolynomialProducts(Case):

    def test_all_pairs_of_some_polynomials(self):
        for first in some_polynomials(4):
            for second in some_polynomials(5):
                with self.subTest(first=first, second=second):
                    found = multiply_polynomials(first, second)
                    self.assertEqual(len(found), len(first) + len(second) - 1)
                    self.assert_integers(found, plain_polynomial_product(first, second))

    def test_one_coefficient_each(self):
        for a in range(0, 256, 5):
            for b in range(0, 256, 3):
                self.assert_integers(multiply_polynomials([a], [b]), [plain_product(a, b)])

    def test_zeros_in_front_and_everywhere_stay(self):
        self.assert_integers(multiply_polynomials([0], [0]), [0])
        self.assert_integers(multiply_polynomials([0], [1, 2, 3]), [0, 0, 0])
        self.assert_integers(multiply_polynomials([1, 2, 3], [0]), [0, 0, 0])
        self.assert_integers(multiply_polynomials([0, 0], [0, 0, 0]), [0, 0, 0, 0])
        self.assert_integers(multiply_polynomials([0, 0, 1], [0, 3]), [0, 0, 0, 3])
        self.assert_integers(multiply_polynomials([1, 0, 0], [3, 0]), [3, 0, 0, 0])

    def test_terms_that_cancel(self):
        self.assert_integers(multiply_polynomials([1, 1], [1, 1]), [1, 0, 1])

    def test_the_value_of_the_product_is_the_product_of_the_values(self):
        first = [7, 0, 200, 31]
        second = [0, 99, 1]
        product = multiply_polynomials(first, second)
        for x in range(256):
            expected = plain_product(plain_value(first, x), plain_value(second, x))
            self.assertEqual(plain_value(product, x), expected)

    def test_the_arguments_are_not_changed(self):
        first = [3, 0, 4]
        second = [0, 1]
        multiply_polynomials(first, second)
        multiply_polynomials(first, first)
        self.assertEqual([first, second], [[3, 0, 4], [0, 1]])

    def test_the_product_is_a_new_list(self):
        for first, second in (([1], [5, 6]), ([5, 6], [1]), ([0], [0])):
            kept = [list(first), list(second)]
            product = multiply_polynomials(first, second)
            product[0] = 99
            product.append(98)
            self.assertEqual([first, second], kept)
            again = multiply_polynomials(first, second)
            self.assert_integers(again, plain_polynomial_product(first, second))

    def test_one_list_as_both_arguments(self):
        same = [1, 2, 3]
        self.assert_integers(multiply_polynomials(same, same), plain_polynomial_product(same, same))


if __name__ == "__main__":
    unittest.main()
