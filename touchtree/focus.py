"""Focus: which box has the keys."""

from touchtree.errors import NoBox
from touchtree.hits import has_mark, is_shown
from touchtree.scenes import below, box_of, has_box, painted, path_of

CAN_HAVE_KEYS = "f"


def can_have_keys(scene, name):
    return is_shown(scene, name) and has_mark(scene, name, CAN_HAVE_KEYS)


def start_of(names, name, by):
    """The place in the order, or right ahead of it, from which to count so many further on."""
    if name is not None:
        return names.index(name)
    # None has the keys: going on comes to the first one, going back to the last, staying to the first too.
    return -1 if by > 0 else 0


def round_behind(names, name):
    """The order from the one behind this name on, round to it; of no name an empty one."""
    if name is None:
        return []
    place = names.index(name)
    return names[place + 1:] + names[:place]


class Focus:
    """A scene, its fence, if any, and which of its boxes has the keys."""

    def __init__(self, scene):
        self.scene = scene
        self.fence = None
        # Always one in order, or None: what takes a box out of the order settles anew who has them.
        self.keyed = None

    def order(self):
        """All boxes that can have the keys, as they are painted."""
        names = painted(self.scene) if self.fence is None else below(self.scene, self.fence)
        return [name for name in names if can_have_keys(self.scene, name)]

    def now(self):
        return self.keyed

    def to(self, name):
        if name not in self.order():
            raise NoBox(f"no box that can have the keys has the name {name!r}")
        self.keyed = name

    def go(self, by):
        """The keys go so many further on; told is who has them then."""
        names = self.order()
        if names:
            place = start_of(names, self.keyed, by) + by
            self.keyed = names[place % len(names)]
        return self.keyed

    def drop(self):
        self.keyed = None

    def keep_in(self, name):
        """This box is the fence, or there is none."""
        if name is not None:
            box_of(self.scene, name)
        self.fence = name
        self.settle([])

    def change(self, scene):
        """Another scene."""
        heirs = round_behind(self.order(), self.keyed)
        self.scene = scene
        if self.fence is not None and not has_box(scene, self.fence):
            self.fence = None
        self.settle(heirs)

    def settle(self, heirs):
        """If who has the keys is out of the order, the first heir in it has them, else the first one there is."""
        names = self.order()
        if self.keyed is not None and self.keyed not in names:
            able = [name for name in heirs if name in names] + names
            self.keyed = able[0] if able else None

    def path(self):
        return [] if self.keyed is None else path_of(self.scene, self.keyed)
