"""Fields of bits: writing them and reading them."""

from dotfield.errors import Truncated


class BitWriter:
    """Collects fields without gaps."""

    def __init__(self):
        self._bits = []

    def write(self, width, value):
        """Append a field, its most significant bit first."""
        for shift in range(width - 1, -1, -1):
            self._bits.append((value >> shift) & 1)

    def bit_list(self):
        """Return a new list of all bits."""
        return list(self._bits)

    def byte_list(self):
        """Return a new list of all bits as bytes, the last one filled up with zeros."""
        missing = -len(self._bits) % 8
        padded = self._bits + [0] * missing
        return [value_of(padded[start:start + 8]) for start in range(0, len(padded), 8)]

    def bits_written(self):
        """Return the number of bits."""
        return len(self._bits)


class BitReader:
    """Reads fields one after the other, from a position in a list of bits."""

    def __init__(self, bits, at=0):
        self._bits = bits
        self._position = at

    def read(self, width):
        """Return the value of the next field and pass it."""
        if width > self.left():
            raise Truncated(len(self._bits))
        start = self._position
        self._position = start + width
        return value_of(self._bits[start:self._position])

    def left(self):
        """Return the number of bits from the position to the end."""
        return len(self._bits) - self._position

    def at(self):
        """Return the position, the index of the next bit."""
        return self._position


def value_of(bits):
    """Return the integer that the bits stand for, the most significant one first."""
    value = 0
    for bit in bits:
        value = 2 * value + bit
    return value


def bits_of_words(words):
    """Return the bits of words of 8 bits, one word after the other."""
    writer = BitWriter()
    for word in words:
        writer.write(8, word)
    return writer.bit_list()


def ones(number):
    """Return how many bits of an integer from 0 are 1."""
    return f"{number:b}".count("1")
