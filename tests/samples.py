"""Scenes that several tests use, and a second, slower way to tell what is hit."""

# a has b and c in it, b has d and f in it; e and g lie at the top. The scene's
# order and the painted one are not the same: f stands far behind its kin.
FAMILY = (
    ("a", "", 1, 2, 10, 9, ""),
    ("b", "a", 2, 1, 5, 4, "c"),
    ("c", "a", 3, 3, 6, 5, "f"),
    ("e", "", -4, -3, 8, 7, "l"),
    ("d", "b", 1, -2, 3, 4, ""),
    ("g", "", 15, 0, 2, 2, "h"),
    ("f", "b", 3, 3, 4, 4, "cfhl"),
)
FAMILY_PAINTED = ["a", "b", "d", "f", "c", "e", "g"]

LETTERS = "abcdefghijklmnopqrstuvwxyz"


def box(name="a", around="", left=0, top=0, width=4, height=4, marks=""):
    return (name, around, left, top, width, height, marks)


def row_of(many):
    """So many boxes side by side at the top."""
    return tuple(box(LETTERS[k], left=k, width=1) for k in range(many))


def chain_of(many):
    """So many boxes, each in the one ahead of it."""
    return tuple(box(LETTERS[k], LETTERS[k - 1] if k else "", 1, -2, 20 - k, 20 - k) for k in range(many))


def stepped(seed):
    """A generator of numbers below a bound that is asked for, the same ones for the same seed."""
    state = seed
    bound = yield None
    while True:
        state = (state * 1103515245 + 12345) % 2147483648
        bound = yield (state >> 8) % bound


def numbers_below(seed):
    """A function that tells a number below a bound, another one each time, the same ones for the same seed."""
    numbers = stepped(seed)
    next(numbers)
    return numbers.send


def name_in(below_of, scene):
    return scene[below_of(len(scene))][0]


def scene_of(seed):
    """A scene of 0 to 12 boxes that often overlap, nest, cut off, hide and let by."""
    below = numbers_below(seed)
    names, boxes = [], []
    for k in range(below(13)):
        around = names[below(k)] if k and below(5) > 1 else ""
        marks = "".join(mark for mark, odds in (("c", 3), ("f", 2), ("h", 9), ("l", 5)) if below(odds) == 0)
        name = LETTERS[(k * 7 + seed) % 26] * (1 + below(3))
        boxes.append((name, around, below(9) - 3, below(9) - 3, below(10), below(10), marks))
        names.append(name)
    return tuple(boxes)


def many_scenes(count):
    return [scene_of(seed) for seed in range(1, count + 1)]


def changed(below_of, scene):
    """Another scene, with a box moved, marked otherwise, put to the end, taken away with all in it, or one more."""
    spare = [name for name in ("new", "nn", "q") if name not in [one[0] for one in scene]]
    if not scene or below_of(5) == 0 and len(scene) < 12 and spare:
        around = name_in(below_of, scene) if scene and below_of(2) else ""
        return scene + (box(spare[0], around, below_of(9) - 3, below_of(9) - 3, marks=("", "f", "cf")[below_of(3)]),)
    name = name_in(below_of, scene)
    inner = Canvas(scene).inner(name)
    others = tuple(one for one in scene if one[0] not in inner)
    ways = (
        others,
        others + tuple(one for one in scene if one[0] in inner),
        tuple(one[:6] + (("", "f", "h", "fh", "fl")[below_of(5)],) if one[0] == name else one for one in scene),
        tuple(one[:2] + (below_of(9) - 3, below_of(9) - 3) + one[4:] if one[0] == name else one for one in scene),
    )
    return ways[below_of(4)]


class Canvas:
    """Paints a scene point by point. stacks: for each point the names touched there, in painted order."""

    def __init__(self, scene):
        self.scene = scene
        self.stacks = {}
        self.order = []
        self.paint("", 0, 0, None, True)

    def paint(self, around, left, top, clip, is_shown):
        for name, outer, dx, dy, width, height, marks in self.scene:
            if outer != around:
                continue
            self.order.append(name)
            shown = is_shown and "h" not in marks
            points = {(left + dx + i, top + dy + j) for i in range(width) for j in range(height)}
            kept = points if clip is None else points & clip
            for point in kept if shown else ():
                self.stacks.setdefault(point, []).append(name)
            self.paint(name, left + dx, top + dy, kept if "c" in marks else clip, shown)

    def touched(self, x, y):
        return self.stacks.get((x, y), [])

    def hits(self, x, y):
        bys = [one[0] for one in self.scene if "l" in one[6]]
        return [name for name in reversed(self.touched(x, y)) if name not in bys]

    def count(self, name):
        return sum(1 for x, y in self.stacks if self.hits(x, y)[:1] == [name])

    def inner(self, name):
        """The box and all in it, in no promised order."""
        names = {name}
        for one in self.scene:
            if one[1] in names:
                names.add(one[0])
        return names
