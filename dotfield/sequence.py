"""Messages of several symbols."""

from dotfield.errors import InvalidSequence
from dotfield.reading import read
from dotfield.symbol import encode


def parity(text):
    """Return the exclusive or of all bytes of a text."""
    combined = 0
    for byte in text:
        combined = combined ^ byte
    return combined


def split(text, count):
    """Return the parts of a text in order, each as a pair of its header and the part."""
    size, longer = divmod(len(text), count)
    whole = parity(text)
    pairs = []
    start = 0
    for index in range(count):
        end = start + size + (1 if index < longer else 0)
        pairs.append(((index, count, whole), text[start:end]))
        start = end
    return pairs


def join(pairs):
    """Return the text of the parts, which are pairs of a header and a part in any order."""
    check_headers([header for header, _ in pairs])
    if not pairs:
        raise InvalidSequence(0)
    _, count, whole = pairs[0][0]
    in_order = sorted(pairs, key=lambda pair: pair[0][0])
    text = [byte for _, part in in_order for byte in part]
    if len(pairs) != count or parity(text) != whole:
        raise InvalidSequence(len(pairs))
    return text


def check_headers(headers):
    """Raise InvalidSequence for the first header that can't be one of the same message."""
    indexes = []
    for place, header in enumerate(headers):
        if header is None or header[1:] != headers[0][1:] or header[0] in indexes:
            raise InvalidSequence(place)
        indexes.append(header[0])


def encode_message(text, count, *, level="M", least=1, most=40):
    """Return the Symbols of the parts of a text, in order."""
    return [
        encode(part, level=level, least=least, most=most, header=header)
        for header, part in split(text, count)
    ]


def read_message(grids):
    """Return the text of the grids of all symbols of a message, in any order."""
    readings = [read(grid) for grid in grids]
    return join([(reading.header, reading.text) for reading in readings])
