"""Pictures: what is hit at each point of a part of a scene. Left and top are in the part, right and bottom are not."""

from touchtree.hits import first_at, takers

NOTHING = "."
ROW_END = "\n"


def sign_of(name):
    return NOTHING if name is None else name[0]


def picture(scene, left, top, right, bottom):
    """A row of signs for each y, ended by a line feed."""
    # Here and below, where each box can be hit is worked out once, not anew for each point.
    rows = takers(scene)
    lines = []
    for y in range(top, bottom):
        signs = [sign_of(first_at(rows, x, y)) for x in range(left, right)]
        lines.append("".join(signs) + ROW_END)
    return "".join(lines)


def unlike_points(one, other, left, top, right, bottom):
    """The points at which not the same is hit in both scenes, rising by x first."""
    ones = takers(one)
    others = takers(other)
    points = []
    for x in range(left, right):
        points.extend([(x, y) for y in range(top, bottom) if first_at(ones, x, y) != first_at(others, x, y)])
    return points


def shares(scene, left, top, right, bottom):
    """Tuples (name, at how many points it is hit) of all names that are hit in this part."""
    rows = takers(scene)
    counts = {}
    for x in range(left, right):
        for y in range(top, bottom):
            name = first_at(rows, x, y)
            if name is not None:
                counts[name] = counts.get(name, 0) + 1
    return sorted(counts.items())
