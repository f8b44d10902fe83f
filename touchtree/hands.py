"""Hands: what boxes hear of hands that come over them, are pressed, held fast, and let go."""

from touchtree.hits import hit_path
from touchtree.scenes import box_of, has_box

LONGEST_DOUBLE = 20

# Where the parts of a row of what boxes hear stand in its tuple.
WORD = 0
BOX = 1


def shared(one, other):
    """The names that both paths share from the top on."""
    names = []
    for name, counterpart in zip(one, other):
        if name != counterpart:
            break
        names.append(name)
    return names


def still_there(scene, names):
    return [name for name in names if has_box(scene, name)]


class Hand:
    """What there is to know of one hand."""

    def __init__(self):
        self.trail = []
        # None, if it is not pressed: pressed where there is no box it has an empty path.
        self.pressed_at = None
        self.held_by = None
        self.clicked = None
        self.clicked_moment = 0
        self.was_double = False

    def tell_holder(self, word):
        return [] if self.held_by is None else [(word, self.held_by)]

    def lead(self, path):
        """It comes to be over this path; told is what boxes hear of that."""
        stays = len(shared(self.trail, path))
        leaves = [("leave", name) for name in reversed(self.trail[stays:])]
        self.trail = list(path)
        return leaves + [("enter", name) for name in path[stays:]]

    def let_go(self, path):
        """It is let go over this path; told is the box that is clicked, in a list, or an empty one."""
        names = shared(self.pressed_at, path)
        self.pressed_at = None
        self.held_by = None
        return names[-1:]

    def click(self, name, moment):
        is_soon = moment - self.clicked_moment <= LONGEST_DOUBLE
        is_double = self.clicked == name and is_soon and not self.was_double
        self.clicked = name
        self.clicked_moment = moment
        self.was_double = is_double
        return [("click", name), ("double", name)] if is_double else [("click", name)]

    def forget(self, scene):
        """Boxes that this scene does not have are out; told is the one that held it, in a list, or an empty one."""
        self.trail = still_there(scene, self.trail)
        if self.pressed_at is not None:
            self.pressed_at = still_there(scene, self.pressed_at)
        if self.held_by is None or has_box(scene, self.held_by):
            return []
        lost = self.held_by
        self.held_by = None
        return [lost]


class Hands:
    """A scene and the hands over it."""

    def __init__(self, scene):
        self.scene = scene
        self.known = {}

    def hand_of(self, hand):
        return self.known.setdefault(hand, Hand())

    def move(self, hand, moment, x, y):
        one = self.hand_of(hand)
        if one.held_by is not None:
            return one.tell_holder("move")
        path = hit_path(self.scene, x, y)
        return one.lead(path) + [("move", name) for name in path[-1:]]

    def down(self, hand, moment, x, y):
        one = self.hand_of(hand)
        if one.pressed_at is not None:
            return []
        path = hit_path(self.scene, x, y)
        one.pressed_at = path
        rows = []
        if one.held_by is None:
            rows = one.lead(path)
            one.held_by = path[-1] if path else None
        return rows + one.tell_holder("down")

    def up(self, hand, moment, x, y):
        one = self.hand_of(hand)
        if one.pressed_at is None:
            return []
        path = hit_path(self.scene, x, y)
        rows = one.tell_holder("up")
        for name in one.let_go(path):
            rows.extend(one.click(name, moment))
        return rows + one.lead(path)

    def hold(self, hand, name):
        box_of(self.scene, name)
        one = self.hand_of(hand)
        one.held_by = name

    def free(self, hand):
        one = self.hand_of(hand)
        one.held_by = None

    def holder(self, hand):
        return self.hand_of(hand).held_by

    def over(self, hand):
        return list(self.hand_of(hand).trail)

    def change(self, scene):
        """Another scene; told are tuples (hand, box) of the boxes that held a hand and are no more."""
        self.scene = scene
        rows = []
        for hand in sorted(self.known):
            rows.extend([(hand, name) for name in self.known[hand].forget(scene)])
        return rows


def sent(hall, rows):
    """Calls the hall's hearers for each row (word, box); told are all that were called, and which rows were kept."""
    called = []
    kept = []
    for number, row in enumerate(rows):
        # Asked row by row: hearers of an earlier one may have taken the box away.
        if has_box(hall.boxes(), row[BOX]):
            answer = hall.call(row[BOX], row[WORD])
            called.extend(answer[0])
            if answer[1]:
                kept.append(number)
    return (called, kept)
