"""Pictures over many scenes show what hit tells."""

import unittest

from samples import FAMILY, Canvas, chain_of, changed, many_scenes, numbers_below, row_of
from touchtree.hits import hit, points_of
from touchtree.pictures import picture, shares, unlike_points

SCENES = many_scenes(36) + [(), FAMILY, chain_of(12), row_of(12)]


def part_of(below_of):
    """Left, top, right, bottom, now and then without points."""
    left, top = below_of(16) - 8, below_of(16) - 8
    return (left, top, left + below_of(14) - 1, top + below_of(14) - 1)


def points_in(part):
    left, top, right, bottom = part
    return [(x, y) for x in range(left, right) for y in range(top, bottom)]


class PicturesTest(unittest.TestCase):
    def pairs(self):
        for seed, scene in enumerate(SCENES):
            below_of = numbers_below(seed + 23)
            other = changed(below_of, scene)
            for turn in range(6):
                yield scene, other, part_of(below_of)
            other = changed(below_of, other)
            yield scene, other, (-9, -9, 12, 12)
            yield scene, SCENES[below_of(len(SCENES))], (-6, -5, 14, 13)

    def test_a_picture_shows_what_hit_tells(self):
        for scene, other, part in self.pairs():
            left, top, right, bottom = part
            text = picture(scene, *part)
            lines = text.split("\n")
            self.assertEqual(len(lines), max(0, bottom - top) + 1)
            self.assertEqual(lines.pop(), "")
            self.assertTrue(all(len(line) == max(0, right - left) for line in lines))
            for x, y in points_in(part):
                name = hit(scene, x, y)
                self.assertEqual(lines[y - top][x - left], "." if name is None else name[0])

    def test_a_picture_shows_what_the_canvas_shows(self):
        for scene, other, part in self.pairs():
            left, top, right, bottom = part
            canvas = Canvas(scene)
            rows = [[(canvas.hits(x, y) or ["."])[0][0] for x in range(left, right)] for y in range(top, bottom)]
            self.assertEqual(picture(scene, *part), "".join("".join(row) + "\n" for row in rows))

    def test_unlike_points_are_those_where_hit_tells_not_the_same(self):
        seen = {True: 0, False: 0}
        for one, other, part in self.pairs():
            told = unlike_points(one, other, *part)
            wanted = [point for point in points_in(part) if hit(one, *point) != hit(other, *point)]
            self.assertEqual(told, wanted)
            self.assertEqual(told, sorted(set(told)))
            seen[told == []] += 1
        self.assertGreater(min(seen.values()), 40, seen)

    def test_where_nothing_is_unlike_the_pictures_are_the_same(self):
        seen = 0
        for one, other, part in self.pairs():
            pictures = (picture(one, *part), picture(other, *part))
            points = unlike_points(one, other, *part)
            if not points:
                self.assertEqual(*pictures)
                self.assertEqual(shares(one, *part), shares(other, *part))
                seen += one != other
            if pictures[0] != pictures[1]:
                self.assertNotEqual(points, [])
        self.assertGreater(seen, 20)

    def test_shares_are_those_of_the_canvas(self):
        for scene, other, part in self.pairs():
            canvas = Canvas(scene)
            firsts = [name for point in points_in(part) for name in canvas.hits(*point)[:1]]
            self.assertEqual(shares(scene, *part), [(name, firsts.count(name)) for name in sorted(set(firsts))])

    def test_shares_of_all_of_it_are_what_points_of_tells(self):
        for scene in SCENES:
            rows = sorted((one[0], points_of(scene, one[0])) for one in scene)
            self.assertEqual(shares(scene, -36, -36, 40, 40), [row for row in rows if row[1]])


if __name__ == "__main__":
    unittest.main()
