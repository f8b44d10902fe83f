"""What holds over all scenes and touches, held against scenes painted point by point."""

import unittest

from samples import FAMILY, Canvas, chain_of, many_scenes, row_of
from touchtree.hits import all_hits, hit, hit_path, is_covered, is_shown, is_touched, points_of
from touchtree.scenes import area_of, below, box_of, painted, path_of

SCENES = many_scenes(60) + [(), FAMILY, row_of(12), chain_of(12)]
POINTS = [(x, y) for x in range(-7, 14, 2) for y in range(-7, 14, 2)]
POINTS += [(x + 1, y + 1) for x, y in POINTS[::3]]


class TouchesTest(unittest.TestCase):
    def test_the_box_hit_is_painted_over_all_others_and_shown(self):
        seen = 0
        for scene in SCENES:
            order = painted(scene)
            for x, y in POINTS:
                name = hit(scene, x, y)
                others = [other for other in order if is_touched(scene, other, x, y)
                          and "l" not in box_of(scene, other)[6]]
                self.assertEqual(name, others[-1] if others else None)
                if name is not None:
                    seen += 1
                    self.assertIs(is_shown(scene, name), True)
                    self.assertIs(is_touched(scene, name, x, y), True)
        self.assertGreater(seen, 500)

    def test_hits_are_those_of_the_canvas(self):
        for scene in SCENES:
            canvas = Canvas(scene)
            for x, y in POINTS:
                hits = canvas.hits(x, y)
                self.assertEqual(all_hits(scene, x, y), hits)
                self.assertEqual(hit(scene, x, y), hits[0] if hits else None)
                self.assertEqual(hit_path(scene, x, y), path_of(scene, hits[0]) if hits else [])

    def test_touches_are_those_of_the_canvas(self):
        for scene in SCENES:
            canvas = Canvas(scene)
            for one in scene:
                for x, y in POINTS:
                    self.assertIs(is_touched(scene, one[0], x, y), one[0] in canvas.touched(x, y))

    def test_hidden_cut_off_and_empty_boxes_are_touched_nowhere(self):
        seen = {"hidden": 0, "cut off": 0, "empty": 0}
        for scene in SCENES:
            touched = {name for stack in Canvas(scene).stacks.values() for name in stack}
            for one in scene:
                name = one[0]
                if name in touched:
                    continue
                left, top, right, bottom = area_of(scene, name)
                why = "hidden" if not is_shown(scene, name) else "empty" if 0 in one[4:6] else "cut off"
                seen[why] += 1
                self.assertFalse(any(is_touched(scene, name, x, y) for x in range(left - 1, right + 1)
                                     for y in range(top - 1, bottom + 1)))
                self.assertEqual(points_of(scene, name), 0)
        self.assertTrue(all(seen.values()), seen)

    def test_points_and_covers_are_those_of_the_canvas(self):
        covers = []
        for scene in SCENES:
            canvas = Canvas(scene)
            counts = {one[0]: canvas.count(one[0]) for one in scene}
            for name, count in counts.items():
                self.assertEqual(points_of(scene, name), count)
                covered = not any(counts[inner] for inner in canvas.inner(name))
                self.assertIs(is_covered(scene, name), covered)
                self.assertEqual(sorted(below(scene, name)), sorted(canvas.inner(name)))
                covers.append(covered)
        self.assertIn(True, covers)
        self.assertIn(False, covers)


if __name__ == "__main__":
    unittest.main()
