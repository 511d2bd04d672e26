"""Segments: choosing the best ones, writing them and reading them."""

from dotfield.bits import BitReader
from dotfield.errors import InvalidCount, InvalidMode
from dotfield.tables import count_bits

# In the order in which they are preferred.
MODES = ("numeric", "alphanumeric", "byte")

MODE_NUMBERS = {"numeric": 1, "alphanumeric": 2, "byte": 4}

# The bits of a group of 0, 1 and more bytes of a mode. Only the last group of a segment may
# be shorter than the longest one.
GROUP_BITS = {"numeric": (0, 4, 7, 10), "alphanumeric": (0, 6, 11), "byte": (0, 8)}

# The number of values that a byte of a mode has. A group is written as the number whose
# digits in this base are the values of its bytes.
BASES = {"numeric": 10, "alphanumeric": 45, "byte": 256}

# The digits, which stand in front, have the same values in the numeric mode.
ALPHANUMERIC = (
    48, 49, 50, 51, 52, 53, 54, 55, 56, 57,
    65, 66, 67, 68, 69, 70, 71, 72, 73, 74, 75, 76, 77,
    78, 79, 80, 81, 82, 83, 84, 85, 86, 87, 88, 89, 90,
    32, 36, 37, 42, 43, 45, 46, 47, 58,
)


def fits(mode, content):
    """Tell whether the mode allows all bytes of the content."""
    if mode == "byte":
        return True
    allowed = ALPHANUMERIC[:BASES[mode]]
    return all([byte in allowed for byte in content])


def segment_bits(segment, version):
    """Return the number of bits of a segment."""
    mode, content = segment
    size = group_size(mode)
    widths = GROUP_BITS[mode]
    return head_bits(mode, version) + len(content) // size * widths[size] + widths[len(content) % size]


def head_bits(mode, version):
    """Return the number of bits of the mode and the count field."""
    return 4 + count_bits(mode, version)


def group_size(mode):
    """Return the number of bytes of a group that is not shortened."""
    return len(GROUP_BITS[mode]) - 1


def best_segments(text, version):
    """Return the segments of the text with the fewest bits."""
    choices = best_choices(text, version)
    segments = []
    start = 0
    while start < len(text):
        mode, end = choices[start]
        segments.append((mode, text[start:end]))
        start = end
    return segments


def best_choices(text, version):
    """Return for each place of the text the mode and the end of the best segment from there on.

    The places are passed backwards. A way is a tuple of the bits of everything from a place
    on, and of the number of bytes behind the segment that is under way there. So the least
    way has the fewest bits, and of several such ways the longest segment.
    """
    choices = []
    ways = ways_onward({}, (0, 0))
    for start in range(len(text) - 1, -1, -1):
        modes = [mode for mode in MODES if fits(mode, text[start:start + 1])]
        longer = {mode: ways_with_byte(mode, ways[mode]) for mode in modes}
        bits, behind, order = best_beginning(longer, version)
        choices.append((MODES[order], len(text) - behind))
        ways = ways_onward(longer, (bits, len(text) - start))
    return choices[::-1]


def ways_with_byte(mode, ways):
    """Return the ways that take a byte, made of the ways behind it.

    The index of a way is the number of bytes that its last group has so far, 0 standing for
    a whole group, too.
    """
    widths = GROUP_BITS[mode]
    longer = []
    for taken in range(len(ways)):
        bits, behind = ways[(taken + 1) % len(ways)]
        longer.append((widths[taken + 1] - widths[taken] + bits, behind))
    return longer


def ways_onward(longer, stop):
    """Return for each mode the least ways, which either take the next byte or stop before it."""
    ways = {}
    for mode in MODES:
        stops = [stop] * group_size(mode)
        ways[mode] = [min(way, stop) for way in longer.get(mode, stops)]
    return ways


def best_beginning(longer, version):
    """Return the least way that begins a segment: its bits, the bytes behind, its index in MODES."""
    beginnings = []
    for mode in longer:
        bits, behind = longer[mode][0]
        beginnings.append((head_bits(mode, version) + bits, behind, MODES.index(mode)))
    return min(beginnings)


def write_segments(writer, segments, version):
    """Append the segments to a BitWriter, without an end."""
    for mode, content in segments:
        writer.write(4, MODE_NUMBERS[mode])
        writer.write(count_bits(mode, version), len(content))
        write_content(writer, mode, content)


def write_content(writer, mode, content):
    """Append the groups of a content."""
    size = group_size(mode)
    for start in range(0, len(content), size):
        group = content[start:start + size]
        writer.write(GROUP_BITS[mode][len(group)], number_of(mode, group))


def number_of(mode, group):
    """Return the number that is written for a group."""
    number = 0
    for byte in group:
        value = byte if mode == "byte" else ALPHANUMERIC.index(byte)
        number = BASES[mode] * number + value
    return number


def read_segments(bits, version, at=0):
    """Return the segments that are written in the data bits from the place on."""
    reader = BitReader(bits, at)
    segments = []
    while reader.left() >= 4:
        place = reader.at()
        number = reader.read(4)
        if number == 0:
            break
        mode = mode_of(number, place)
        segments.append((mode, read_content(reader, mode, version)))
    return segments


def mode_of(number, place):
    """Return the mode of a number that was read at the place."""
    for mode in MODES:
        if MODE_NUMBERS[mode] == number:
            return mode
    raise InvalidMode(place)


def read_content(reader, mode, version):
    """Read the count field and as many bytes as it tells."""
    place = reader.at()
    count = reader.read(count_bits(mode, version))
    if count == 0:
        raise InvalidCount(place)
    content = []
    while len(content) < count:
        size = min(group_size(mode), count - len(content))
        content.extend(read_group(reader, mode, size))
    return content


def read_group(reader, mode, size):
    """Read the bytes of one group."""
    place = reader.at()
    number = reader.read(GROUP_BITS[mode][size])
    group = []
    for _ in range(size):
        value = number % BASES[mode]
        number = number // BASES[mode]
        group.append(value if mode == "byte" else ALPHANUMERIC[value])
    if number > 0:
        raise InvalidCount(place)
    return group[::-1]
