import unittest

from samples import FAMILY, FAMILY_PAINTED, Canvas, box, chain_of, row_of
from touchtree.errors import NoBox
from touchtree.hits import all_hits, hit, hit_path, is_covered, is_shown, is_touched, points_of
from touchtree.scenes import marked, painted, put_at, raised

STRANGERS = ("", "z", "aa", "ab", "abc", "A", "abcd")
# A box from 3 to 7 by 2 to 5, and points around and on its corners and sides.
LONE = (box("a", "", 3, 2, 4, 3),)
IN_LONE = ((3, 2), (6, 2), (3, 4), (6, 4), (4, 3), (5, 2), (3, 3))
OUT_OF_LONE = ((2, 2), (3, 1), (7, 2), (3, 5), (7, 5), (6, 5), (7, 4), (2, 1), (2, 4), (6, 1), (0, 0), (50, -50))


class HitCase(unittest.TestCase):
    def check_no_box(self, ask):
        for scene in (FAMILY, (), row_of(12)):
            for name in STRANGERS:
                with self.subTest(scene=scene, name=name):
                    self.assertRaises(NoBox, ask, scene, name)

    def check_touched(self, scene, name, x, y, told):
        with self.subTest(scene=scene, name=name, x=x, y=y):
            self.assertIs(is_touched(scene, name, x, y), told)


class IsShownTest(HitCase):
    def test_without_the_mark(self):
        for name in FAMILY_PAINTED:
            self.assertIs(is_shown(FAMILY, name), name not in "fg")

    def test_every_mark(self):
        for marks in ("", "c", "f", "l", "cf", "cl", "fl", "cfl"):
            self.assertIs(is_shown((box(marks=marks),), "a"), True)
        for marks in ("h", "ch", "fh", "hl", "cfh", "cfhl"):
            self.assertIs(is_shown((box(marks=marks),), "a"), False)

    def test_one_around_it_however_far(self):
        for hidden in range(12):
            scene = marked(chain_of(12), "abcdefghijkl"[hidden], "h")
            for place, name in enumerate("abcdefghijkl"):
                self.assertIs(is_shown(scene, name), place < hidden)

    def test_one_beside_it_or_in_it_does_not_matter(self):
        scene = (box("a"), box("b", "a", marks="h"), box("c", "a"), box("d", marks="h"))
        self.assertIs(is_shown(scene, "a"), True)
        self.assertIs(is_shown(scene, "c"), True)

    def test_an_empty_box_is_shown(self):
        self.assertIs(is_shown((box(width=0, height=0),), "a"), True)

    def test_a_name_that_no_box_has(self):
        self.check_no_box(is_shown)


class IsTouchedTest(HitCase):
    def test_left_and_top_are_in_it_right_and_bottom_are_not(self):
        for x, y in IN_LONE:
            self.check_touched(LONE, "a", x, y, True)
        for x, y in OUT_OF_LONE:
            self.check_touched(LONE, "a", x, y, False)

    def test_every_mark(self):
        for marks in ("c", "f", "l", "cf", "cl", "fl", "cfl"):
            self.check_touched(marked(LONE, "a", marks), "a", 3, 2, True)
            self.check_touched(marked(LONE, "a", marks), "a", 7, 2, False)
        for marks in ("h", "ch", "fh", "hl", "cfhl"):
            self.check_touched(marked(LONE, "a", marks), "a", 3, 2, False)

    def test_an_empty_box_nowhere(self):
        for width, height in ((0, 5), (5, 0), (0, 0)):
            scene = (box("a", "", 1, 1, width, height),)
            for x in range(-1, 8):
                for y in range(-1, 8):
                    self.check_touched(scene, "a", x, y, False)

    def test_a_box_that_sticks_out(self):
        scene = (box("a", "", 0, 0, 4, 4), box("b", "a", 2, 2, 4, 4))
        self.check_touched(scene, "b", 5, 5, True)
        self.check_touched(scene, "b", 2, 2, True)
        self.check_touched(scene, "b", 1, 2, False)

    def test_cut_off_at_each_side(self):
        scene = (box("a", "", 3, 2, 4, 3, "c"), box("b", "a", -3, -3, 12, 12))
        for x, y in IN_LONE:
            self.check_touched(scene, "b", x, y, True)
        for x, y in OUT_OF_LONE:
            self.check_touched(scene, "b", x, y, False)

    def test_cut_off_by_one_far_around_it(self):
        for cutter in ("a", "b", "c"):
            scene = (box("a", "", 0, 0, 5, 5), box("b", "a", 0, 0, 5, 5), box("c", "b", 0, 0, 5, 5),
                     box("d", "c", 0, 0, 9, 9))
            self.check_touched(scene, "d", 5, 4, True)
            self.check_touched(marked(scene, cutter, "c"), "d", 5, 4, False)
            self.check_touched(marked(scene, cutter, "c"), "d", 4, 5, False)
            self.check_touched(marked(scene, cutter, "c"), "d", 4, 4, True)

    def test_cut_off_by_several(self):
        scene = (box("a", "", 0, 0, 9, 3, "c"), box("b", "a", 2, -2, 3, 9, "c"), box("d", "b", -9, -9, 20, 20))
        told = [(x, y) for x in range(-10, 15) for y in range(-12, 15) if is_touched(scene, "d", x, y)]
        self.assertEqual(told, [(x, y) for x in (2, 3, 4) for y in (0, 1, 2)])

    def test_an_empty_box_cuts_off_all(self):
        scene = (box("a", "", 0, 0, 0, 9, "c"), box("b", "a", -2, 0, 9, 9))
        for x in range(-3, 9):
            self.check_touched(scene, "b", x, 3, False)
        self.check_touched(marked(scene, "a", ""), "b", 0, 3, True)

    def test_one_beside_it_cuts_nothing_off(self):
        scene = (box("a", "", 0, 0, 1, 1, "c"), box("b", "", 0, 0, 5, 5), box("c", "b", 4, 4, 3, 3, "c"))
        self.check_touched(scene, "b", 3, 3, True)
        self.check_touched(scene, "c", 6, 6, True)

    def test_a_box_that_cuts_off_still_has_its_own_area(self):
        scene = (box("a", "", 2, 2, 3, 3, "c"), box("b", "a", 1, 1, 3, 3, "c"))
        self.check_touched(scene, "a", 4, 4, True)
        self.check_touched(scene, "b", 4, 4, True)
        self.check_touched(scene, "b", 5, 5, False)

    def test_one_around_it_is_hidden(self):
        scene = (box("a", marks="h"), box("b", "a"), box("c", "b"))
        self.check_touched(scene, "c", 1, 1, False)
        self.check_touched(marked(scene, "a", ""), "c", 1, 1, True)

    def test_covered_it_is_still_touched(self):
        self.check_touched((box("a"), box("b")), "a", 1, 1, True)

    def test_a_name_that_no_box_has(self):
        self.check_no_box(lambda scene, name: is_touched(scene, name, 0, 0))
        self.check_no_box(lambda scene, name: is_touched(scene, name, 99, 99))


class AllHitsTest(HitCase):
    def test_the_last_painted_first(self):
        self.assertEqual(all_hits(FAMILY, 4, 3), ["d", "b", "a"])
        self.assertEqual(all_hits(FAMILY, 6, 6), ["c", "b", "a"])
        self.assertEqual(all_hits(FAMILY, 9, 9), ["c", "a"])
        self.assertEqual(all_hits(FAMILY, 10, 10), ["a"])
        self.assertEqual(all_hits(FAMILY, 1, 2), ["a"])

    def test_painted_not_the_scenes_order(self):
        # d stands behind c in the scene, but is painted ahead of it.
        scene = (box("a"), box("b", "a"), box("c", "a"), box("d", "b"))
        self.assertEqual(all_hits(scene, 1, 1), ["c", "d", "b", "a"])

    def test_boxes_that_let_touches_by(self):
        scene = (box("a"), box("b", "a", marks="l"), box("c", "b"), box("d", marks="cfl"))
        self.assertEqual(all_hits(scene, 1, 1), ["c", "a"])

    def test_a_box_that_lets_by_still_cuts_off_and_hides(self):
        scene = (box("a", "", 0, 0, 2, 2, "cl"), box("b", "a", 0, 0, 5, 5))
        self.assertEqual(all_hits(scene, 1, 1), ["b"])
        self.assertEqual(all_hits(scene, 2, 1), [])
        self.assertEqual(all_hits(marked(scene, "a", "hl"), 1, 1), [])

    def test_hidden_cut_off_and_empty_boxes(self):
        self.assertEqual(all_hits(FAMILY, 15, 0), [])
        self.assertEqual(all_hits(FAMILY, 4, 2), ["a"])
        self.assertEqual(all_hits((box("a", width=0),), 0, 0), [])

    def test_nothing_there(self):
        self.assertEqual(all_hits((), 0, 0), [])
        self.assertEqual(all_hits(FAMILY, 50, 50), [])
        self.assertEqual(all_hits(FAMILY, -4, -3), [])

    def test_12_boxes(self):
        scene = tuple(box(letter) for letter in "abcdefghijkl")
        self.assertEqual(all_hits(scene, 3, 3), list("lkjihgfedcba"))
        self.assertEqual(all_hits(row_of(12), 5, 0), ["f"])

    def test_a_new_list_each_time(self):
        all_hits(FAMILY, 4, 3).clear()
        all_hits(FAMILY, 50, 50).append("q")
        self.assertEqual(all_hits(FAMILY, 4, 3), ["d", "b", "a"])
        self.assertEqual(all_hits(FAMILY, 50, 50), [])


class HitTest(HitCase):
    def test_the_first_of_them(self):
        for x, y, name in ((4, 3, "d"), (6, 6, "c"), (10, 10, "a"), (3, 3, "b"), (1, 2, "a"), (7, 6, "c")):
            self.assertEqual(hit(FAMILY, x, y), name)

    def test_none(self):
        for scene, x, y in (((), 0, 0), (FAMILY, 50, 50), (FAMILY, 15, 0), (FAMILY, -4, -3), (LONE, 7, 5)):
            self.assertIs(hit(scene, x, y), None)

    def test_raised_it_is_hit(self):
        scene = (box("a"), box("b", "a"), box("c"))
        self.assertEqual(hit(scene, 0, 0), "c")
        self.assertEqual(hit(raised(scene, "a"), 0, 0), "b")

    def test_all_let_by(self):
        self.assertIs(hit((box("a", marks="l"), box("b", "a", marks="fl")), 1, 1), None)


class HitPathTest(HitCase):
    def test_the_path_of_the_first(self):
        self.assertEqual(hit_path(FAMILY, 4, 3), ["a", "b", "d"])
        self.assertEqual(hit_path(FAMILY, 6, 6), ["a", "c"])
        self.assertEqual(hit_path(FAMILY, 10, 10), ["a"])

    def test_boxes_on_it_need_not_be_touched(self):
        scene = (box("a", "", 0, 0, 1, 1, "l"), box("b", "a", 5, 5, 2, 2))
        self.assertEqual(hit_path(scene, 6, 6), ["a", "b"])

    def test_an_empty_one(self):
        self.assertEqual(hit_path((), 0, 0), [])
        self.assertEqual(hit_path(FAMILY, 15, 0), [])

    def test_a_new_list_each_time(self):
        hit_path(FAMILY, 4, 3).append("q")
        hit_path(FAMILY, 50, 50).append("q")
        self.assertEqual(hit_path(FAMILY, 4, 3), ["a", "b", "d"])
        self.assertEqual(hit_path(FAMILY, 50, 50), [])


class PointsOfTest(HitCase):
    def test_a_box_alone(self):
        self.assertEqual(points_of(LONE, "a"), 12)
        self.assertEqual(points_of((box("a", "", 20, -20, 20, 20),), "a"), 400)
        self.assertEqual(points_of((box("a", "", -20, 20, 1, 1),), "a"), 1)

    def test_less_what_is_painted_over_it(self):
        scene = (box("a", "", 0, 0, 5, 5), box("b", "a", 3, 3, 5, 5), box("c", "", 4, 0, 1, 9))
        self.assertEqual(points_of(scene, "a"), 25 - 4 - 3)
        self.assertEqual(points_of(scene, "b"), 25 - 5)
        self.assertEqual(points_of(scene, "c"), 9)

    def test_one_that_lets_by_covers_nothing(self):
        scene = (box("a", "", 0, 0, 5, 5), box("b", "", 0, 0, 5, 5, "l"))
        self.assertEqual(points_of(scene, "a"), 25)
        self.assertEqual(points_of(scene, "b"), 0)

    def test_one_that_is_hidden_covers_nothing(self):
        scene = (box("a", "", 0, 0, 5, 5), box("b", "", 0, 0, 5, 5, "h"), box("c", "b", 0, 0, 5, 5))
        self.assertEqual(points_of(scene, "a"), 25)
        self.assertEqual(points_of(scene, "b"), 0)
        self.assertEqual(points_of(scene, "c"), 0)

    def test_what_is_cut_off_does_not_count(self):
        scene = (box("a", "", 0, 0, 3, 3, "c"), box("b", "a", 1, 2, 9, 9))
        self.assertEqual(points_of(scene, "b"), 2)
        self.assertEqual(points_of(scene, "a"), 7)

    def test_an_empty_box(self):
        self.assertEqual(points_of((box(width=0),), "a"), 0)
        self.assertEqual(points_of((box(height=0),), "a"), 0)

    def test_a_box_painted_ahead_covers_nothing(self):
        scene = (box("a"), box("b", "a"), box("c", "a"), box("d", "b"))
        self.assertEqual([points_of(scene, name) for name in "abcd"], [0, 0, 16, 0])

    def test_family(self):
        canvas = Canvas(FAMILY)
        for name in FAMILY_PAINTED:
            self.assertEqual(points_of(FAMILY, name), canvas.count(name))

    def test_a_name_that_no_box_has(self):
        self.check_no_box(points_of)


class IsCoveredTest(HitCase):
    def test_a_box_under_another(self):
        scene = (box("a"), box("b"))
        self.assertIs(is_covered(scene, "a"), True)
        self.assertIs(is_covered(scene, "b"), False)
        self.assertIs(is_covered(put_at(scene, "b", 1, 0), "a"), False)
        self.assertIs(is_covered(put_at(scene, "b", 0, -1), "a"), False)

    def test_by_several_together(self):
        scene = (box("a", "", 0, 0, 4, 4), box("b", "", 0, 0, 2, 4), box("c", "", 2, 0, 2, 4))
        self.assertIs(is_covered(scene, "a"), True)
        self.assertIs(is_covered(put_at(scene, "c", 2, 1), "a"), False)

    def test_one_in_it_is_hit(self):
        scene = (box("a", "", 0, 0, 4, 4), box("b", "a"), box("c", "b"))
        self.assertEqual([points_of(scene, name) for name in "abc"], [0, 0, 16])
        for name in "abc":
            self.assertIs(is_covered(scene, name), False)
        self.assertIs(is_covered(marked(scene, "c", "h"), "c"), True)
        self.assertIs(is_covered(marked(scene, "c", "h"), "a"), False)

    def test_one_far_in_it_sticks_out(self):
        scene = (box("a"), box("b", "a"), box("c", "b", 9, 9, 1, 1), box("d"))
        for name in "abc":
            self.assertIs(is_covered(scene, name), False)
        for name in "ab":
            self.assertIs(is_covered(marked(scene, name, "c"), "a"), True)

    def test_hidden_empty_and_letting_by(self):
        for one in (box(marks="h"), box(width=0), box(height=0), box(marks="l")):
            self.assertIs(is_covered((one,), "a"), True)
        self.assertIs(is_covered((box(width=0), box("b", "a")), "a"), False)
        self.assertIs(is_covered((box(marks="l"), box("b", "a")), "a"), False)
        self.assertIs(is_covered((box(marks="h"), box("b", "a")), "a"), True)

    def test_a_name_that_no_box_has(self):
        self.check_no_box(is_covered)


class KeptTest(unittest.TestCase):
    def test_what_is_handed_in_stays_as_it_was(self):
        scene = tuple(tuple(one) for one in FAMILY)
        for name in FAMILY_PAINTED:
            is_shown(scene, name)
            is_touched(scene, name, 4, 3)
            points_of(scene, name)
            is_covered(scene, name)
        hit(scene, 4, 3)
        self.assertEqual(scene, FAMILY)

    def test_nothing_is_kept_from_one_scene_to_another(self):
        other = put_at(FAMILY, "a", -9, -9)
        for turn in range(2):
            self.assertEqual(hit(FAMILY, 4, 3), "d")
            self.assertIs(hit(other, 4, 3), None)
            self.assertIs(is_touched(FAMILY, "d", 4, 3), True)
            self.assertIs(is_touched(other, "d", 4, 3), False)

    def test_a_changed_list_of_hits_leaves_the_painting(self):
        all_hits(FAMILY, 4, 3).reverse()
        self.assertEqual(painted(FAMILY), FAMILY_PAINTED)


if __name__ == "__main__":
    unittest.main()
