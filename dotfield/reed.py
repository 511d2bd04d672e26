"""Check words: appending them to data words, and correcting damaged words by them."""

from dotfield.errors import TooDamaged
from dotfield.gf import divide, evaluate, multiply, multiply_polynomials, power


def generator(count):
    """Return the product of the polynomials x + power(i) for i from 0 to count - 1."""
    polynomial = [1]
    for i in range(count):
        polynomial = multiply_polynomials(polynomial, [1, power(i)])
    return polynomial


def check_words(data, count):
    """Return the remainder of the data words, with count zeros behind, by the generator."""
    divisor = generator(count)
    rest = data + [0] * count
    for start in range(len(data)):
        factor = rest[start]
        for i, coefficient in enumerate(divisor):
            rest[start + i] = rest[start + i] ^ multiply(factor, coefficient)
    return rest[len(data):]


def is_codeword(words, count):
    """Tell whether there are more than count words whose polynomial has the roots of the generator."""
    return len(words) > count and not any(values_at_roots(words, count))


def correct(words, count):
    """Return the codeword within the distance count // 2, and its distance from the words."""
    values = values_at_roots(words, count)
    locator, degree = locator_of(values)
    places = located_places(locator, len(words))
    # A locator of another number of places belongs to no codeword that is near enough.
    if degree > count // 2 or len(places) != degree:
        raise TooDamaged(0)
    corrected = list(words)
    for place in places:
        change = change_at(place_element(place, len(words)), locator, values)
        corrected[place] = corrected[place] ^ change
    return corrected, degree


def values_at_roots(words, count):
    """Return the values of the words' polynomial at the roots of the generator.

    All of them are 0 for a codeword, so they depend on the changes of the words alone:
    value i is the sum of change * place_element ** i over all changed places.
    """
    return [evaluate(words, power(i)) for i in range(count)]


def place_element(place, length):
    """Return the element that stands for a place among that many words."""
    return power(length - 1 - place)


def located_places(locator, length):
    """Return the places among that many words whose elements are roots of the locator."""
    return [place for place in range(length) if evaluate(locator, place_element(place, length)) == 0]


def locator_of(values):
    """Return the polynomial whose roots are the elements of the changed places, and its degree.

    It is the shortest rule by which each value follows from the values before it, found by
    the algorithm of Berlekamp and Massey. If too much is changed, it may have too few
    coefficients for its degree.
    """
    locator = [1]
    degree = 0
    earlier = [1]
    for at in range(len(values)):
        earlier = [0] + earlier
        gap = gap_at(locator, values, at)
        if gap != 0:
            repaired = combined(locator, earlier, gap)
            if 2 * degree <= at:
                degree = at + 1 - degree
                earlier = [divide(coefficient, gap) for coefficient in locator]
            locator = repaired
    return locator, degree


def gap_at(locator, values, at):
    """Return by how much the value at that index differs from what the locator foretells."""
    gap = 0
    for i, coefficient in enumerate(locator):
        gap = gap ^ multiply(coefficient, values[at - i])
    return gap


def combined(first, second, factor):
    """Return the sum of the first list and factor times the second, missing coefficients being 0."""
    total = first + [0] * (len(second) - len(first))
    for i, coefficient in enumerate(second):
        total[i] = total[i] ^ multiply(factor, coefficient)
    return total


def change_at(element, locator, values):
    """Return the change of the word at the place of an element, a root of the locator."""
    filtering = quotient(locator, element)
    total = 0
    # The sum over the coefficients takes each change times the polynomial's value at its
    # place. At all changed places but this one that value is 0.
    for i, coefficient in enumerate(reversed(filtering)):
        total = total ^ multiply(coefficient, values[i])
    return divide(total, evaluate(filtering, element))


def quotient(polynomial, root):
    """Return the polynomial divided by x + root, for a root of the polynomial."""
    coefficients = []
    value = 0
    for coefficient in polynomial[:-1]:
        value = multiply(value, root) ^ coefficient
        coefficients.append(value)
    return coefficients
