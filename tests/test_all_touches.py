"""What holds over all scenes and touches of halls, hands and rivals, each held against a second way to tell it."""

import unittest

from samples import FAMILY, chain_of, many_scenes, name_in, numbers_below
from touchtree.halls import Hall
from touchtree.hands import Hands
from touchtree.hits import hit_path
from touchtree.rivals import decided, losers
from touchtree.scenes import below, cut, has_box, marked, path_of, put_at, raised

SCENES = [scene for scene in many_scenes(60) if scene] + [FAMILY, chain_of(12)]
WORDS = ("tap", "key")


class Agenda:
    """A hall told by a stack of what is still to be done, the next thing last."""

    def __init__(self, scene):
        self.there = {one[0]: one[1] for one in scene}
        self.hearers = []

    def cut(self, name):
        gone = {name}
        while True:
            more = {one for one, around in self.there.items() if around in gone} - gone
            if not more:
                break
            gone |= more
        self.there = {one: around for one, around in self.there.items() if one not in gone}

    def numbers(self, name, word, is_down):
        return [k for k, one in enumerate(self.hearers) if one["live"] and one["at"] == (name, word, is_down)]

    def hear(self, name, word, is_down, deeds, is_once):
        self.hearers.append({"at": (name, word, is_down), "deeds": deeds, "once": is_once, "live": True})

    def turns(self, name, word, depth):
        path = []
        while name:
            path.insert(0, name)
            name = self.there[name]
        call = {"depth": depth, "kept": False, "turns": True, "hearers": True}
        turns = [(one, word, True) for one in path] + [(one, word, False) for one in path[::-1]]
        return call, [("turn", call, turn) for turn in turns[::-1]]

    def call(self, name, word):
        told = []
        first, agenda = self.turns(name, word, 0)
        while agenda:
            what, call, thing = agenda.pop()
            if what == "turn" and thing[0] in self.there and call["turns"]:
                agenda += [("hearer", call, number) for number in self.numbers(*thing)[::-1]]
            elif what == "hearer" and self.hearers[thing]["live"] and call["hearers"]:
                hearer = self.hearers[thing]
                told.append((thing,) + hearer["at"])
                hearer["live"] = not hearer["once"]
                agenda += [("deed", call, deed) for deed in hearer["deeds"][::-1]]
            elif what == "deed":
                agenda += self.do(call, *thing)
        return (told, first["kept"])

    def do(self, call, verb, *rest):
        if verb == "keep":
            call["kept"] = True
        if verb in ("stop", "stopnow"):
            call["turns"] = False
        if verb == "stopnow":
            call["hearers"] = False
        if verb == "unhear" and 0 <= rest[0] < len(self.hearers):
            self.hearers[rest[0]]["live"] = False
        if verb in ("hear", "cut", "call") and rest[0] in self.there:
            if verb == "hear":
                self.hear(*rest, (), False)
            if verb == "cut":
                self.cut(rest[0])
            if verb == "call" and call["depth"] <= 2:
                return self.turns(*rest, call["depth"] + 1)[1]
        return []


def deed_of(below_of, scene):
    name = "zz" if below_of(9) == 0 else name_in(below_of, scene)
    word = WORDS[below_of(2)]
    return (("stop",), ("stopnow",), ("keep",), ("unhear", below_of(14) - 2), ("hear", name, word, below_of(2) == 0),
            ("cut", name), ("call", name, word), ("call", name, word))[below_of(8)]


def hearers_of(below_of, scene, most_deeds):
    rows = []
    for k in range(below_of(14)):
        deeds = tuple(deed_of(below_of, scene) for step in range(below_of(most_deeds + 1)))
        rows.append((name_in(below_of, scene), WORDS[below_of(2)], below_of(2) == 0, deeds, below_of(4) == 0))
    return rows


class CallsTest(unittest.TestCase):
    def test_where_nobody_stops_it_all_on_the_path_are_called(self):
        seen = 0
        for seed, scene in enumerate(SCENES):
            below_of = numbers_below(seed + 7)
            rows = hearers_of(below_of, scene, 0)
            for one in scene:
                hall = Hall(scene)
                for row in rows:
                    hall.hear(*row)
                path = path_of(scene, one[0])
                told, is_kept = hall.call(one[0], "tap")
                wanted = [(place, number) for place, name in enumerate(path) for number, row in enumerate(rows)
                          if row[:3] == (name, "tap", True)]
                wanted += [(place, number) for place, name in list(enumerate(path))[::-1]
                           for number, row in enumerate(rows) if row[:3] == (name, "tap", False)]
                self.assertEqual(told, [(number,) + rows[number][:3] for place, number in wanted])
                self.assertIs(is_kept, False)
                seen += len(told)
        self.assertGreater(seen, 300)

    def test_calls_with_deeds_are_those_of_the_agenda(self):
        deepest = 0
        for seed in range(600):
            below_of = numbers_below(seed + 100)
            scene = SCENES[below_of(len(SCENES))]
            hall, agenda = Hall(scene), Agenda(scene)
            for row in hearers_of(below_of, scene, 2):
                hall.hear(*row)
                agenda.hear(*row)
            for step in range(4):
                name, word = name_in(below_of, scene), WORDS[below_of(2)]
                if not has_box(hall.boxes(), name):
                    continue
                told = hall.call(name, word)
                self.assertEqual(told, agenda.call(name, word))
                self.assertEqual([one[0] for one in hall.boxes()], list(agenda.there))
                deepest = max(deepest, len(told[0]))
            for one in scene:
                for word in WORDS:
                    for is_down in (True, False):
                        self.assertEqual(hall.numbers(one[0], word, is_down), agenda.numbers(one[0], word, is_down))
        self.assertGreater(deepest, 20)

    def test_who_is_called_lies_on_the_path_down_first_and_then_up(self):
        for seed in range(200):
            below_of = numbers_below(seed + 900)
            scene = SCENES[below_of(len(SCENES))]
            hall = Hall(scene)
            for name, word, is_down, deeds, is_once in hearers_of(below_of, scene, 2):
                hall.hear(name, word, is_down, tuple(deed for deed in deeds if deed[0] != "call"), is_once)
            name = name_in(below_of, scene)
            path = path_of(scene, name)
            turns = [(one, True) for one in path] + [(one, False) for one in path[::-1]]
            told = hall.call(name, "tap")[0]
            places = [(turns.index((box, is_down)), number) for number, box, word, is_down in told]
            self.assertEqual(places, sorted(set(places)))


class HandsTest(unittest.TestCase):
    def changed(self, below_of, scene):
        """Another scene, with a box moved, marked, raised, or taken away; paths stay as they were."""
        name = name_in(below_of, scene)
        moved = put_at(scene, name, below_of(9) - 3, below_of(9) - 3)
        others = (moved, marked(scene, name, "h"), marked(scene, name, ""), raised(scene, name), cut(scene, name))
        return others[below_of(5)]

    def check_heard(self, scene, inside, heard):
        """Boxes enter and leave once; those around enter first, and leave last."""
        for word, name in heard:
            if word == "enter":
                self.assertNotIn(name, inside)
                self.assertEqual(inside, path_of(scene, name)[:-1])
                inside.append(name)
            elif word == "leave":
                self.assertEqual(inside[-1:], [name])
                inside.pop()

    def step(self, below_of, hands, scene, inside):
        hand, x, y, moment = below_of(2), below_of(12) - 3, below_of(12) - 3, below_of(30)
        ask = (hands.move, hands.move, hands.down, hands.up)[below_of(4)]
        holder = hands.holder(hand)
        heard = ask(hand, moment, x, y)
        if holder is not None and ask != hands.up:
            self.assertIn(heard, ([], [(ask.__name__, holder)]))
        elif holder is not None and heard:
            self.assertEqual(heard[0], ("up", holder))
            self.assertIsNone(hands.holder(hand))
        elif ask == hands.move:
            self.assertEqual(hands.over(hand), hit_path(scene, x, y))
        self.check_heard(scene, inside[hand], heard)
        self.assertEqual(hands.over(hand), inside[hand])
        return [row[0] for row in heard]

    def test_each_box_hears_once_that_a_hand_comes_and_goes(self):
        seen = {}
        for seed, scene in enumerate(SCENES * 2):
            below_of = numbers_below(seed + 31)
            hands, inside = Hands(scene), {0: [], 1: []}
            for turn in range(150):
                for word in self.step(below_of, hands, scene, inside):
                    seen[word] = seen.get(word, 0) + 1
                if below_of(9) == 0 and scene:
                    hands.hold(below_of(2), name_in(below_of, scene))
                if below_of(6) == 0:
                    hands.free(below_of(2))
                if below_of(12) == 0 and scene:
                    holders = [(hand, hands.holder(hand)) for hand in (0, 1)]
                    scene = self.changed(below_of, scene)
                    lost = [row for row in holders if row[1] is not None and not has_box(scene, row[1])]
                    self.assertEqual(hands.change(scene), lost)
                    inside = {hand: [one for one in names if has_box(scene, one)] for hand, names in inside.items()}
        for word in ("enter", "leave", "move", "down", "up", "click", "double"):
            self.assertGreater(seen.get(word, 0), 5, word)

    def test_clicks_are_of_the_last_shared_box(self):
        seen = 0
        for seed, scene in enumerate(SCENES):
            below_of = numbers_below(seed + 77)
            for turn in range(30):
                hands = Hands(scene)
                start, end = [(below_of(12) - 3, below_of(12) - 3) for step in range(2)]
                hands.down(0, 0, *start)
                clicks = [row[1] for row in hands.up(0, 0, *end) if row[0] == "click"]
                lasts = [hit_path(scene, *point)[-1:] for point in (start, end)]
                common = [one[0] for one in scene if all(last and last[0] in below(scene, one[0]) for last in lasts)]
                # Of the boxes around both, the innermost one is that with the longest path.
                wanted = sorted(common, key=lambda name: len(path_of(scene, name)))[-1:]
                self.assertEqual(clicks, wanted)
                seen += len(clicks)
        self.assertGreater(seen, 100)


QUITS = {
    "tap": lambda t, a, u, end: a > 6 or u > 6 or t > 30,
    "long": lambda t, a, u, end: a > 6 or u > 6 or (end and t < 40),
    "across": lambda t, a, u, end: (u > 6 and u > a) or (end and a <= 6),
    "along": lambda t, a, u, end: (a > 6 and a > u) or (end and u <= 6),
    "drag": lambda t, a, u, end: end and a <= 6 and u <= 6,
}
CLAIMS = {
    "tap": lambda t, a, u, end: end,
    "long": lambda t, a, u, end: t >= 40,
    "across": lambda t, a, u, end: a > 6,
    "along": lambda t, a, u, end: u > 6,
    "drag": lambda t, a, u, end: a > 6 or u > 6,
}


def first_place(asks, kind, points):
    """The first point at which this holds of a kind, or one behind all."""
    places = [k for k, (t, x, y) in enumerate(points) if asks[kind](t, abs(x), abs(y), k == len(points) - 1)]
    return places[0] if places else len(points)


def told_rival_by_rival(rivals, points):
    """Who has the touch, and at which place: each rival's own way first, then who was quickest."""
    quits = [first_place(QUITS, kind, points) for name, kind in rivals]
    claims = [first_place(CLAIMS, kind, points) for name, kind in rivals]
    rows = [(claim, number) for number, claim in enumerate(claims) if claim < quits[number]]
    ways = [min(rows)] if rows else []
    if len(rivals) > 1:
        last = max(range(len(rivals)), key=lambda number: quits[number])
        lonely = max(quits[:last] + quits[last + 1:])
        if lonely < quits[last]:
            ways.append((lonely, last))
    ways = [way for way in ways if way[0] < len(points)]
    return min(ways) if ways else None, quits


class RivalsTest(unittest.TestCase):
    def touches(self):
        for seed in range(1500):
            below_of = numbers_below(seed + 5)
            rivals = []
            for k in range(below_of(6)):
                one = ("abc"[below_of(3)], list(QUITS)[below_of(5)])
                if one not in rivals:
                    rivals.append(one)
            points, moment = [], below_of(3)
            for k in range(1 + below_of(6)):
                far = 5 + below_of(5) if below_of(3) == 0 else 3
                points.append((moment, below_of(2 * far + 1) - far, below_of(2 * far + 1) - far))
                moment += below_of(16)
            yield rivals, points

    def test_decided_and_losers_are_those_told_rival_by_rival(self):
        seen = {"none": 0}
        for rivals, points in self.touches():
            way, quits = told_rival_by_rival(rivals, points)
            if way is None:
                self.assertIsNone(decided(rivals, points))
                place, winner = len(points) - 1, None
                seen["none"] += 1
            else:
                place, winner = way
                self.assertEqual(decided(rivals, points), (rivals[winner], points[place][0]))
                seen[rivals[winner][1]] = seen.get(rivals[winner][1], 0) + 1
            outs = [(number, points[min(place, quits[number])][0]) for number in range(len(rivals)) if number != winner]
            self.assertEqual(losers(rivals, points), outs)
        self.assertEqual(sorted(seen), sorted(["none", *QUITS]))
        self.assertGreater(min(seen.values()), 10, seen)

    def test_one_has_it_at_most_and_all_others_are_out_by_then(self):
        for rivals, points in self.touches():
            has = decided(rivals, points)
            outs = losers(rivals, points)
            out_numbers = [number for number, moment in outs]
            self.assertEqual(out_numbers, sorted(set(out_numbers)))
            if has is None:
                self.assertEqual(out_numbers, list(range(len(rivals))))
            else:
                self.assertEqual([one for number, one in enumerate(rivals) if number not in out_numbers], [has[0]])
                self.assertTrue(all(moment <= has[1] for number, moment in outs))


if __name__ == "__main__":
    unittest.main()
