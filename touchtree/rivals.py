"""Rivals: which of several gestures a touch belongs to. A rival is a tuple (box, kind), a point (moment, x, y)."""

FARTHEST_STILL = 6
LATEST_TAP = 30
EARLIEST_LONG = 40

KIND = 1

# Where the parts of a point stand in its tuple.
MOMENT = 0
X = 1
Y = 2


def is_far(distance):
    return distance > FARTHEST_STILL


def strays(wanted, other, is_end):
    """Whether a touch that is to go one way goes the other way, or ends without having gone far."""
    return is_far(other) and other > wanted or is_end and not is_far(wanted)


def gives_up(kind, point, is_end):
    aside = abs(point[X])
    upright = abs(point[Y])
    if kind == "across":
        return strays(aside, upright, is_end)
    if kind == "along":
        return strays(upright, aside, is_end)
    is_moved = is_far(aside) or is_far(upright)
    if kind == "tap":
        return is_moved or point[MOMENT] > LATEST_TAP
    if kind == "long":
        return is_moved or is_end and point[MOMENT] < EARLIEST_LONG
    return is_end and not is_moved


def claims(kind, point, is_end):
    aside = abs(point[X])
    upright = abs(point[Y])
    if kind == "tap":
        return is_end
    if kind == "long":
        return point[MOMENT] >= EARLIEST_LONG
    if kind == "across":
        return is_far(aside)
    if kind == "along":
        return is_far(upright)
    return is_far(aside) or is_far(upright)


def taker(rivals, left, point, is_end):
    """The number of the rival that has the touch at this point, of those that are left, or None."""
    for number in left:
        if claims(rivals[number][KIND], point, is_end):
            return number
    # A rival without others has to claim the touch, one that outlasts all others does not.
    return left[0] if len(left) == 1 and len(rivals) > 1 else None


def outcome(rivals, points):
    """A tuple of the number that has the touch, or None, of the moment, and of a dict of when numbers gave up."""
    outs = {}
    left = list(range(len(rivals)))
    for place, point in enumerate(points):
        is_end = place == len(points) - 1
        for number in left:
            if gives_up(rivals[number][KIND], point, is_end):
                outs[number] = point[MOMENT]
        left = [number for number in left if number not in outs]
        winner = taker(rivals, left, point, is_end)
        if winner is not None:
            return (winner, point[MOMENT], outs)
    return (None, points[-1][MOMENT], outs)


def decided(rivals, points):
    """A tuple of the rival that has the touch and of the moment, or None."""
    end = outcome(rivals, points)
    return None if end[0] is None else (rivals[end[0]], end[1])


def losers(rivals, points):
    """Tuples (number, moment) of when each rival that does not have the touch was out."""
    end = outcome(rivals, points)
    return [(number, end[2].get(number, end[1])) for number in range(len(rivals)) if number != end[0]]


def rivals_on(path, kinds):
    """The rivals of all boxes of a path, the last box's first."""
    rivals = []
    for name in reversed(path):
        rivals.extend([(name, kind) for kind in kinds.get(name, [])])
    return rivals
