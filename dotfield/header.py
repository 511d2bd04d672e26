"""The header of a symbol that is one of several of a message."""

from dotfield.bits import BitReader
from dotfield.errors import InvalidCount

# The four bits with which a header begins, where otherwise the mode of a segment stands.
HEADER_MARK = 3

HEADER_BITS = 20


def header_bits(header):
    """Return the number of bits of a header, which may be None."""
    return 0 if header is None else HEADER_BITS


def write_header(writer, header):
    """Append a header to a BitWriter, or nothing for None."""
    if header is not None:
        index, count, parity = header
        writer.write(4, HEADER_MARK)
        writer.write(4, index)
        writer.write(4, count - 1)
        writer.write(8, parity)


def read_header(bits):
    """Return the header at the beginning of the data bits, or None if they have none."""
    reader = BitReader(bits)
    if reader.left() < 4 or reader.read(4) != HEADER_MARK:
        return None
    place = reader.at()
    index = reader.read(4)
    last = reader.read(4)
    parity = reader.read(8)
    if index > last:
        raise InvalidCount(place)
    return index, last + 1, parity
