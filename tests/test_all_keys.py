"""Keys over many scenes, held against a second way to tell who has them."""

import unittest

from samples import FAMILY, Canvas, chain_of, changed, many_scenes, name_in, numbers_below
from touchtree.errors import NoBox
from touchtree.focus import Focus
from touchtree.scenes import path_of

SCENES = many_scenes(80) + [(), FAMILY, chain_of(12), tuple(one[:6] + ("f",) for one in chain_of(12))]


class Ring:
    """Who has the keys, told step by step."""

    def __init__(self, scene):
        self.scene = scene
        self.fence = None
        self.name = None

    def order(self):
        canvas = Canvas(self.scene)
        hidden = set()
        for one in self.scene:
            if "h" in one[6]:
                hidden |= canvas.inner(one[0])
        inside = canvas.order if self.fence is None else canvas.inner(self.fence)
        able = {one[0] for one in self.scene if "f" in one[6]} - hidden
        return [name for name in canvas.order if name in able and name in inside]

    def go(self, by):
        order = self.order()
        if not order:
            return
        if self.name is None:
            self.name = order[-1] if by < 0 else order[0]
            by -= (by > 0) - (by < 0)
        while by:
            place = order.index(self.name)
            if by > 0:
                self.name = order[0] if self.name == order[-1] else order[place + 1]
                by -= 1
            else:
                self.name = order[-1] if self.name == order[0] else order[place - 1]
                by += 1

    def hand_on(self, ahead):
        """The keys go to the next one of the order ahead that is left, else to the first one there is."""
        now = self.order()
        if self.name is None or self.name in now:
            return
        while ahead and ahead[0] != self.name:
            ahead = ahead[1:] + ahead[:1]
        for heir in ahead[1:] + now:
            if heir in now:
                self.name = heir
                return
        self.name = None

    def keep_in(self, fence):
        self.fence = fence
        self.hand_on([])

    def change(self, scene):
        ahead = self.order()
        self.scene = scene
        if self.fence not in [one[0] for one in scene]:
            self.fence = None
        self.hand_on(ahead)


class RoundsTest(unittest.TestCase):
    def test_by_one_the_keys_come_to_each_once_a_round(self):
        longest = 0
        for scene in SCENES:
            for by in (1, -1):
                focus = Focus(scene)
                order = focus.order()
                wanted = order[::by] * 3
                self.assertEqual([focus.go(by) for step in wanted], wanted)
                longest = max(longest, len(order))
        self.assertEqual(longest, 12)

    def test_from_each_box_too(self):
        for scene in SCENES:
            order = Focus(scene).order()
            for start in order:
                for by in (1, -1):
                    focus = Focus(scene)
                    focus.to(start)
                    told = [focus.go(by) for step in order]
                    self.assertEqual(sorted(told), sorted(order))
                    self.assertEqual(told[-1], start)

    def test_within_each_fence_too(self):
        for scene in SCENES:
            for one in scene:
                focus = Focus(scene)
                focus.keep_in(one[0])
                order = focus.order()
                told = [focus.go(1) for step in order + order]
                self.assertEqual(told, order + order)
                self.assertTrue(all(one[0] in path_of(scene, name) for name in told))

    def test_all_that_can_have_the_keys_are_in_order(self):
        for scene in SCENES:
            self.assertEqual(Focus(scene).order(), Ring(scene).order())
            for one in scene:
                focus, ring = Focus(scene), Ring(scene)
                focus.keep_in(one[0])
                ring.keep_in(one[0])
                self.assertEqual(focus.order(), ring.order())


class StepsTest(unittest.TestCase):
    def step(self, below_of, focus, ring):
        """One thing is asked of both; told is which."""
        what = ("go", "go", "to", "drop", "keep_in", "change", "change")[below_of(7)]
        name = name_in(below_of, ring.scene) if ring.scene and below_of(8) else ("", "zzz")[below_of(2)]
        if what == "go":
            by = below_of(31) - 15
            ring.go(by)
            self.assertEqual(focus.go(by), ring.name)
        elif what == "to" and name in ring.order():
            ring.name = name
            self.assertIsNone(focus.to(name))
        elif what == "drop":
            ring.name = None
            self.assertIsNone(focus.drop())
        elif what == "keep_in" and (name in [one[0] for one in ring.scene] or below_of(2)):
            fence = None if name in ("", "zzz") or below_of(3) == 0 else name
            ring.keep_in(fence)
            self.assertIsNone(focus.keep_in(fence))
        elif what == "change":
            ring.change(changed(below_of, ring.scene))
            self.assertIsNone(focus.change(ring.scene))
        else:
            with self.assertRaises(NoBox):
                getattr(focus, what)(name)
            what += " refused"
        return what

    def test_steps_are_those_of_the_ring(self):
        seen = {}
        for seed, scene in enumerate(SCENES * 3):
            below_of = numbers_below(seed + 11)
            focus, ring = Focus(scene), Ring(scene)
            for turn in range(40):
                had = ring.name
                what = self.step(below_of, focus, ring)
                self.assertEqual(focus.order(), ring.order())
                self.assertEqual(focus.now(), ring.name)
                self.assertEqual(focus.path(), path_of(ring.scene, ring.name) if ring.name is not None else [])
                seen[what] = seen.get(what, 0) + 1
                if what in ("change", "keep_in") and ring.name != had:
                    seen[what + " moves"] = seen.get(what + " moves", 0) + 1
        for what in ("go", "to", "drop", "keep_in", "change", "to refused", "keep_in refused", "change moves",
                     "keep_in moves"):
            self.assertGreater(seen.get(what, 0), 30, (what, seen))


if __name__ == "__main__":
    unittest.main()
