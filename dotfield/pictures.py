"""Pictures: painting a grid, and scanning a picture of one."""

from dotfield.errors import NotAPicture
from dotfield.layout import is_side

# The number of modules in the upper edge of a finder.
FINDER_EDGE = 7


def paint(grid, *, scale=4, quiet=4, dark=0, light=255):
    """Return the picture of a grid."""
    picture = []
    for row in with_quiet_zone(grid, quiet):
        line = [dark if module == 1 else light for module in row for _ in range(scale)]
        picture.extend([list(line) for _ in range(scale)])
    return picture


def with_quiet_zone(grid, quiet):
    """Return the modules of the grid with light modules around them."""
    beside = [0] * quiet
    width = len(grid) + 2 * quiet
    above = [[0] * width for _ in range(quiet)]
    return above + [beside + row + beside for row in grid] + above


def scan(picture):
    """Return the grid that a picture shows."""
    if not is_rectangle(picture):
        raise NotAPicture(0)
    bound = min([min(row) for row in picture]) + max([max(row) for row in picture])
    frame = frame_of(picture, bound)
    scale = scale_of(frame, bound)
    if scale == 0 or len(frame) != len(frame[0]):
        raise NotAPicture(0)
    side, rest = divmod(len(frame), scale)
    if rest != 0 or not is_side(side):
        raise NotAPicture(0)
    middles = range(scale // 2, len(frame), scale)
    return [[1 if is_marked(frame[row][column], bound) else 0 for column in middles] for row in middles]


def is_rectangle(picture):
    """Tell whether the rows have equal lengths and at least one entry."""
    if len(picture) == 0 or len(picture[0]) == 0:
        return False
    return all([len(row) == len(picture[0]) for row in picture])


def is_marked(gray, bound):
    """Tell whether an entry is marked; the bound is the least and the greatest gray together."""
    return 2 * gray < bound


def frame_of(picture, bound):
    """Return the smallest rectangle with all marked entries; it is empty if there are none."""
    rows = marked_places([min(row) for row in picture], bound)
    columns = marked_places([min(column) for column in zip(*picture)], bound)
    if not rows:
        return []
    return [row[columns[0]:columns[-1] + 1] for row in picture[rows[0]:rows[-1] + 1]]


def marked_places(grays, bound):
    """Return the indexes of the grays that are marked."""
    return [i for i, gray in enumerate(grays) if is_marked(gray, bound)]


def scale_of(frame, bound):
    """Return the scale that the first row of the frame tells, or 0 if it tells none."""
    if not frame:
        return 0
    marks = [is_marked(gray, bound) for gray in frame[0]]
    run = marks.index(False) if False in marks else len(marks)
    return run // FINDER_EDGE if run % FINDER_EDGE == 0 else 0
