"""Texts: scenes as lines, one for each box."""

from touchtree.errors import NoText
from touchtree.scenes import LEFT, MARKS, is_scene

EMPTY = "-"


def line_of(box):
    return " ".join([EMPTY if part == "" else str(part) for part in box]) + "\n"


def written(scene):
    return "".join([line_of(box) for box in scene])


def whole_from(part):
    """The whole number, or None, if the part is none."""
    try:
        return int(part)
    except ValueError:
        return None


def box_from(line):
    """What the line writes, which need be no box."""
    parts = ["" if part == EMPTY else part for part in line.split(" ")]
    numbers = [whole_from(part) for part in parts[LEFT:MARKS]]
    return tuple(parts[:LEFT] + numbers + parts[MARKS:])


def read(text):
    """The scene of which this is the writing."""
    lines = text.split("\n")
    # Behind the last line feed there is no line.
    scene = tuple([box_from(line) for line in lines[:-1]])
    # Written once more, as numbers, empty texts and ends can be read from more than the one way to write them.
    if not is_scene(scene) or written(scene) != text:
        raise NoText(f"not the writing of a scene: {text!r}")
    return scene
