"""Halls: who is called for a box, going down to it and coming up again."""

from touchtree.errors import NoNumber
from touchtree.scenes import box_of, cut, has_box, path_of

# Where the parts of a hearer stand in its tuple.
BOX = 0
WORD = 1
IS_DOWN = 2
DEEDS = 3
IS_ONCE = 4

MOST_CALLS_WITHIN = 3


class Course:
    """One call under way, and what its hearers have made of it so far."""

    def __init__(self, word, depth, told):
        self.word = word
        # How many call deeds are under way, the one that made this call among them.
        self.depth = depth
        # Shared with the calls within it, so that whom they call is told in its place.
        self.told = told
        self.is_kept = False
        # By stop and by stopnow: what is under way of the turn goes on, or not even that does.
        self.is_last_turn = False
        self.is_ended = False


class Hall:
    """A scene and its hearers."""

    def __init__(self, scene):
        self.scene = scene
        # From numbers to hearers, those alone that there are; numbers only grow, so their order is rising.
        self.hearers = {}
        self.made = 0

    def boxes(self):
        return self.scene

    def hear(self, name, word, is_down, deeds, is_once):
        """One more hearer; told is its number."""
        box_of(self.scene, name)
        number = self.made
        self.hearers[number] = (name, word, is_down, deeds, is_once)
        self.made += 1
        return number

    def unhear(self, number):
        if number not in self.hearers:
            raise NoNumber(f"no hearer has the number {number!r}")
        self.hearers.pop(number)

    def numbers(self, name, word, is_down):
        """The numbers of all hearers of a box, also of a box that is no more."""
        wanted = (name, word, is_down)
        return [number for number, hearer in self.hearers.items() if hearer[:DEEDS] == wanted]

    def cut(self, name):
        self.scene = cut(self.scene, name)

    def call(self, name, word):
        """A tuple of all that were called, and of whether one of them kept the call."""
        told = []
        is_kept = self.go_along(name, Course(word, 0, told))
        return (told, is_kept)

    def go_along(self, name, course):
        """Gives each box of the path its turns, and tells whether the call was kept."""
        path = path_of(self.scene, name)
        turns = [(box, True) for box in path] + [(box, False) for box in reversed(path)]
        for box, is_down in turns:
            # Hearers may have taken the box away since the path was told.
            if has_box(self.scene, box) and not course.is_last_turn:
                self.give_turn(box, is_down, course)
        return course.is_kept

    def give_turn(self, box, is_down, course):
        for number in self.numbers(box, course.word, is_down):
            # An earlier hearer of this turn may have made it be no more.
            if number in self.hearers and not course.is_ended:
                self.rouse(number, course)

    def rouse(self, number, course):
        """Calls one hearer, which does its deeds."""
        hearer = self.hearers[number]
        course.told.append((number, hearer[BOX], hearer[WORD], hearer[IS_DOWN]))
        # Ahead of its deeds: a call among them is not to come back to it.
        if hearer[IS_ONCE]:
            self.unhear(number)
        for deed in hearer[DEEDS]:
            self.do_deed(deed, course)

    def do_deed(self, deed, course):
        if deed[0] == "keep":
            course.is_kept = True
        elif deed[0] == "stop":
            course.is_last_turn = True
        elif deed[0] == "stopnow":
            course.is_ended = True
        elif deed[0] == "unhear":
            self.unhear_if_there(deed[1])
        # All other deeds name a box, and do nothing where it is no more.
        elif has_box(self.scene, deed[1]):
            self.do_deed_on_box(deed, course)

    def unhear_if_there(self, number):
        if number in self.hearers:
            self.unhear(number)

    def do_deed_on_box(self, deed, course):
        if deed[0] == "hear":
            self.hear(deed[1], deed[2], deed[3], (), False)
        elif deed[0] == "cut":
            self.cut(deed[1])
        elif course.depth < MOST_CALLS_WITHIN:
            # A course of its own: what stops or keeps one call does not touch the other.
            self.go_along(deed[1], Course(deed[2], course.depth + 1, course.told))
