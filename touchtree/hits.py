"""Hits: which boxes are touched at a point. Areas are tuples (left, top, right, bottom)."""

from touchtree.scenes import MARKS, area_of, below, box_of, painted, path_of

CUTS_OFF = "c"
HIDDEN = "h"
LETS_BY = "l"


def has_mark(scene, name, mark):
    return mark in box_of(scene, name)[MARKS]


def has_point(area, x, y):
    """Whether the point lies in the area; left and top do, right and bottom do not."""
    return area[0] <= x < area[2] and area[1] <= y < area[3]


def overlap(one, other):
    """The area of all points that both have; its right may lie left of its left, where there are none."""
    left = max(one[0], other[0])
    top = max(one[1], other[1])
    return (left, top, min(one[2], other[2]), min(one[3], other[3]))


def window_of(scene, name):
    """The part of the box's area that no box on its path cuts off."""
    window = area_of(scene, name)
    for step in path_of(scene, name):
        if has_mark(scene, step, CUTS_OFF):
            window = overlap(window, area_of(scene, step))
    return window


def is_shown(scene, name):
    return not any([has_mark(scene, step, HIDDEN) for step in path_of(scene, name)])


def is_touched(scene, name, x, y):
    return is_shown(scene, name) and has_point(window_of(scene, name), x, y)


def takers(scene):
    """Tuples (name, window) of all boxes that can be hit, the last painted first."""
    names = [name for name in reversed(painted(scene)) if is_shown(scene, name)]
    return [(name, window_of(scene, name)) for name in names if not has_mark(scene, name, LETS_BY)]


def first_at(rows, x, y):
    """The first name of such tuples whose window has the point, or None."""
    for name, window in rows:
        if has_point(window, x, y):
            return name
    return None


def all_hits(scene, x, y):
    return [name for name, window in takers(scene) if has_point(window, x, y)]


def hit(scene, x, y):
    return first_at(takers(scene), x, y)


def hit_path(scene, x, y):
    name = hit(scene, x, y)
    return [] if name is None else path_of(scene, name)


def points_of(scene, name):
    """At how many points hit tells this box."""
    window = window_of(scene, name)
    # Where each box can be hit is worked out once, not anew for each point.
    rows = takers(scene)
    points = 0
    for y in range(window[1], window[3]):
        points += len([x for x in range(window[0], window[2]) if first_at(rows, x, y) == name])
    return points


def is_covered(scene, name):
    """Whether hit tells neither the box nor one in it anywhere."""
    return all([points_of(scene, inner) == 0 for inner in below(scene, name)])
