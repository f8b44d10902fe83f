"""Scenes: tuples of boxes, each at the top or in a box ahead of it."""

from touchtree.errors import NoBox, Taken, TooMany

# Where the parts of a box stand in its tuple.
NAME = 0
AROUND = 1
LEFT = 2
TOP = 3
WIDTH = 4
HEIGHT = 5
MARKS = 6
PARTS = 7

LETTERS = "abcdefghijklmnopqrstuvwxyz"
LONGEST_NAME = 3
FARTHEST = 20
LARGEST = 20
ALL_MARKS = "cfhl"
MOST_BOXES = 12


def is_whole(thing, least, most):
    """Whether the thing is a whole number between these two, or one of them."""
    # Truths are ints to Python, but no whole numbers here.
    if not isinstance(thing, int) or isinstance(thing, bool):
        return False
    return least <= thing <= most


def is_name(thing):
    if not isinstance(thing, str) or not 1 <= len(thing) <= LONGEST_NAME:
        return False
    return all([sign in LETTERS for sign in thing])


def is_marks(thing):
    if not isinstance(thing, str):
        return False
    # Whatever is no mark, stands twice or does not rise is lost or moved here.
    return thing == "".join([mark for mark in ALL_MARKS if mark in thing])


def is_box(thing):
    """Whether the thing is a box, whatever stands as the one around it."""
    if not isinstance(thing, tuple) or len(thing) != PARTS:
        return False
    if not is_name(thing[NAME]) or not is_marks(thing[MARKS]):
        return False
    is_placed = all([is_whole(thing[part], -FARTHEST, FARTHEST) for part in (LEFT, TOP)])
    return is_placed and all([is_whole(thing[part], 0, LARGEST) for part in (WIDTH, HEIGHT)])


def is_scene(thing):
    if not isinstance(thing, tuple) or len(thing) > MOST_BOXES:
        return False
    # The empty text is the top, which stands ahead of all boxes.
    ahead = [""]
    for box in thing:
        if not is_box(box) or box[NAME] in ahead or box[AROUND] not in ahead:
            return False
        ahead.append(box[NAME])
    return True


def has_box(scene, name):
    return any([box[NAME] == name for box in scene])


def box_of(scene, name):
    for box in scene:
        if box[NAME] == name:
            return box
    raise NoBox(f"no box has the name {name!r}")


def path_of(scene, name):
    """The names from the top to the box, itself last."""
    around = box_of(scene, name)[AROUND]
    if around == "":
        return [name]
    return path_of(scene, around) + [name]


def children(scene, name):
    """The names of the boxes right in the box, or of those at the top for the empty text."""
    return [box[NAME] for box in scene if box[AROUND] == name]


def below(scene, name):
    """The box and all in it, as they are painted."""
    names = [box_of(scene, name)[NAME]]
    for child in children(scene, name):
        names.extend(below(scene, child))
    return names


def painted(scene):
    """All names, each box ahead of those in it."""
    names = []
    for name in children(scene, ""):
        names.extend(below(scene, name))
    return names


def area_of(scene, name):
    """The box's left, top, right and bottom, counted from the scene's own corner."""
    path = [box_of(scene, step) for step in path_of(scene, name)]
    left = sum([box[LEFT] for box in path])
    top = sum([box[TOP] for box in path])
    last = box_of(scene, name)
    return (left, top, left + last[WIDTH], top + last[HEIGHT])


def with_box(scene, box):
    """The scene with one more box, behind all others."""
    name = box[NAME]
    around = box[AROUND]
    if has_box(scene, name):
        raise Taken(f"a box has the name {name!r} already")
    if around != "" and not has_box(scene, around):
        raise NoBox(f"no box has the name {around!r}")
    if len(scene) >= MOST_BOXES:
        raise TooMany(f"a scene has {MOST_BOXES} boxes at most")
    return scene + (box,)


def cut(scene, name):
    """The scene without the box and all in it."""
    gone = below(scene, name)
    return tuple([box for box in scene if box[NAME] not in gone])


def raised(scene, name):
    """The scene with the box and all in it behind all others."""
    lifted = below(scene, name)
    # The scene's order, not the painted one: each box keeps its place among those that go with it.
    return cut(scene, name) + tuple([box for box in scene if box[NAME] in lifted])


def with_other(scene, other):
    """The scene with this box in the place of the one that has its name."""
    return tuple([other if box[NAME] == other[NAME] else box for box in scene])


def marked(scene, name, marks):
    box = box_of(scene, name)
    return with_other(scene, box[:MARKS] + (marks,))


def put_at(scene, name, left, top):
    box = box_of(scene, name)
    return with_other(scene, box[:LEFT] + (left, top) + box[WIDTH:])
