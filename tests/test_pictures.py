import unittest

from samples import FAMILY, box, row_of
from touchtree.hits import hit
from touchtree.pictures import picture, shares, unlike_points
from touchtree.scenes import cut, marked, put_at, raised

# ab hangs out of a; cc lets touches by; bb lies over all of these, and d is hidden.
SCENE = (
    box("a", "", 1, 1, 4, 3),
    box("ab", "a", 2, 1, 3, 1),
    box("cc", "", 0, 0, 3, 3, "l"),
    box("bb", "", 4, 0, 1, 2),
    box("d", "", 0, 0, 9, 9, "h"),
)
WHOLE = (0, 0, 7, 5)
PICTURE = """\
....b..
.aaab..
.aaaaa.
.aaaa..
.......
"""


class PictureTest(unittest.TestCase):
    def check(self, scene, part, text):
        self.assertEqual(picture(scene, *part), text)

    def test_the_first_letter_of_what_is_hit(self):
        self.check(SCENE, WHOLE, PICTURE)

    def test_a_row_for_each_y_and_a_sign_for_each_x(self):
        self.check(row_of(4), (0, 0, 6, 2), "abcd..\nabcd..\n")
        self.check(row_of(4), (0, 3, 6, 5), "abcd..\n......\n")
        self.check(row_of(12), (0, 0, 12, 1), "abcdefghijkl\n")

    def test_a_part_of_it(self):
        self.check(SCENE, (3, 1, 6, 3), "ab.\naaa\n")
        self.check(SCENE, (5, 2, 6, 3), "a\n")
        self.check(SCENE, (4, 1, 5, 2), "b\n")

    def test_left_and_top_are_in_it_right_and_bottom_are_not(self):
        scene = (box("a", "", 2, 3, 2, 2),)
        self.check(scene, (2, 3, 4, 5), "aa\naa\n")
        self.check(scene, (1, 2, 5, 6), "....\n.aa.\n.aa.\n....\n")
        self.check(scene, (3, 4, 4, 5), "a\n")
        self.check(scene, (4, 3, 5, 4), ".\n")
        self.check(scene, (2, 5, 3, 6), ".\n")

    def test_points_below_0(self):
        scene = (box("a", "", -3, -2, 2, 1), box("b", "a", 1, 1, 3, 1))
        self.check(scene, (-4, -3, 3, 1), ".......\n.aa....\n..bbb..\n.......\n")

    def test_the_empty_scene(self):
        self.check((), (-1, -1, 2, 1), "...\n...\n")

    def test_parts_that_no_box_lies_in(self):
        self.check(SCENE, (100, 100, 102, 103), "..\n..\n..\n")
        self.check(SCENE, (-9, -9, -7, -8), "..\n")

    def test_parts_without_points(self):
        for part in ((0, 0, 0, 0), (3, 3, 3, 3), (0, 2, 5, 2), (0, 2, 5, 1), (0, 9, 5, -9), (5, 5, 4, 4), (5, 5, 4, 5)):
            self.check(SCENE, part, "")

    def test_rows_without_points(self):
        self.check(SCENE, (2, 1, 2, 3), "\n\n")
        self.check(SCENE, (2, 1, 1, 4), "\n\n\n")
        self.check((), (9, 0, -9, 1), "\n")

    def test_a_box_that_lets_touches_by(self):
        scene = (box("a", width=3, height=1), box("b", width=2, height=1, marks="l"))
        self.check(scene, (0, 0, 4, 1), "aaa.\n")
        self.check(scene[1:], (0, 0, 4, 1), "....\n")
        self.check(marked(scene, "b", ""), (0, 0, 4, 1), "bba.\n")

    def test_boxes_that_cut_off(self):
        self.check(marked(SCENE, "a", "c"), WHOLE, PICTURE.replace("aaaaa", "aaaa."))

    def test_raised(self):
        self.check(raised(SCENE, "a"), WHOLE, "....b..\n" + PICTURE[8:].replace("b", "a"))


class UnlikePointsTest(unittest.TestCase):
    def check(self, one, other, part, points):
        self.assertEqual(unlike_points(one, other, *part), points)
        self.assertEqual(unlike_points(other, one, *part), points)

    def test_rising_by_x_first(self):
        one = (box("a", "", 0, 0, 2, 3),)
        self.check(one, (), (-1, -1, 4, 4), [(0, 0), (0, 1), (0, 2), (1, 0), (1, 1), (1, 2)])
        self.check(one, put_at(one, "a", 1, 1), (-5, -5, 5, 5), [
            (0, 0), (0, 1), (0, 2), (1, 0), (1, 3), (2, 1), (2, 2), (2, 3)])

    def test_points_below_0(self):
        one = (box("a", "", -2, -1, 4, 2),)
        told = unlike_points(one, (), -3, -3, 3, 3)
        self.assertEqual(told, [(-2, -1), (-2, 0), (-1, -1), (-1, 0), (0, -1), (0, 0), (1, -1), (1, 0)])
        self.assertEqual(told, sorted(told))

    def test_names_count_not_signs(self):
        one, other = (box("a", width=1, height=1),), (box("ab", width=1, height=1),)
        self.assertEqual(picture(one, 0, 0, 3, 3), picture(other, 0, 0, 3, 3))
        self.check(one, other, (0, 0, 3, 3), [(0, 0)])

    def test_what_is_hit_counts_and_nothing_else(self):
        one = (box("a", width=2, height=1), box("b", width=1, height=1, marks="f"))
        for other in (marked(one, "b", "cf"), one[:1] + (box("b", "a", width=1, height=1),),
                      one + (box("c", marks="l"),), one + (box("c", marks="h"),), one + (box("c", width=0),)):
            self.assertNotEqual(one, other)
            self.check(one, other, (-5, -5, 9, 9), [])
        self.check(one, raised(one, "a"), (-5, -5, 9, 9), [(0, 0)])
        self.check(one, cut(one, "b"), (-5, -5, 9, 9), [(0, 0)])
        self.check(one, marked(one, "b", "l"), (-5, -5, 9, 9), [(0, 0)])
        self.check(one, marked(one, "a", "h"), (-5, -5, 9, 9), [(1, 0)])

    def test_the_same_scene(self):
        for scene in ((), SCENE, FAMILY, row_of(12)):
            self.check(scene, scene, (-20, -20, 20, 20), [])

    def test_left_and_top_are_in_it_right_and_bottom_are_not(self):
        one = (box("a", "", 0, 0, 9, 9),)
        self.check(one, (), (2, 3, 4, 5), [(2, 3), (2, 4), (3, 3), (3, 4)])
        self.check(one, (), (8, 8, 10, 10), [(8, 8)])
        self.check(one, (), (-1, -1, 1, 1), [(0, 0)])

    def test_parts_without_points(self):
        one = (box("a", "", 0, 0, 9, 9),)
        for part in ((0, 0, 0, 0), (2, 2, 2, 5), (2, 2, 5, 2), (5, 5, 2, 8), (5, 5, 8, 2), (5, 5, 2, 2)):
            self.check(one, (), part, [])

    def test_parts_that_no_box_lies_in(self):
        self.check(SCENE, FAMILY, (50, 50, 54, 54), [])

    def test_two_that_are_elsewhere(self):
        one, other = (box("a", width=1, height=2),), (box("b", left=1, width=1, height=2),)
        self.check(one, other, (0, 0, 3, 3), [(0, 0), (0, 1), (1, 0), (1, 1)])


class SharesTest(unittest.TestCase):
    def check(self, scene, part, rows):
        self.assertEqual(shares(scene, *part), rows)

    def test_of_all_that_are_hit(self):
        self.check(SCENE, WHOLE, [("a", 3 + 2 + 4), ("ab", 3), ("bb", 2)])

    def test_rising_by_name(self):
        names = ("z", "b", "aa", "ab", "c", "a", "ba", "abc")
        scene = tuple(box(name, left=k, width=1) for k, name in enumerate(names))
        self.check(scene, (0, 0, 9, 3), [(name, 3) for name in ("a", "aa", "ab", "abc", "b", "ba", "c", "z")])
        told = shares(raised(FAMILY, "b"), -20, -20, 20, 20)
        self.assertEqual([row[0] for row in told], sorted(row[0] for row in told))
        self.assertTrue(all(type(row) is tuple for row in told))

    def test_in_a_part(self):
        self.check(SCENE, (4, 0, 6, 3), [("ab", 2), ("bb", 2)])
        self.check(SCENE, (1, 1, 2, 2), [("a", 1)])
        self.check(SCENE, (5, 2, 6, 3), [("ab", 1)])

    def test_left_and_top_are_in_it_right_and_bottom_are_not(self):
        scene = (box("a", "", 2, 3, 2, 2),)
        self.check(scene, (2, 3, 4, 5), [("a", 4)])
        self.check(scene, (3, 4, 9, 9), [("a", 1)])
        self.check(scene, (0, 0, 3, 4), [("a", 1)])
        self.check(scene, (4, 3, 9, 9), [])
        self.check(scene, (0, 0, 9, 3), [])

    def test_parts_without_points(self):
        for part in ((0, 0, 0, 0), (1, 1, 1, 4), (1, 1, 4, 1), (4, 1, 1, 4), (1, 4, 4, 1), (4, 4, 1, 1)):
            self.check(SCENE, part, [])

    def test_parts_that_no_box_lies_in(self):
        self.check(SCENE, (60, 60, 64, 64), [])
        self.check(SCENE, (-9, -9, 0, 0), [])
        self.check((), (-9, -9, 9, 9), [])

    def test_a_box_that_lets_touches_by(self):
        scene = (box("a", width=3, height=1), box("b", width=2, height=1, marks="l"))
        self.check(scene, (0, 0, 4, 1), [("a", 3)])
        self.check(scene[1:], (0, 0, 4, 1), [])

    def test_covered_hidden_and_empty_boxes_have_none(self):
        scene = (box("a", width=1), box("b"), box("c", marks="h"), box("d", width=0), box("e", "c"))
        self.check(scene, (-9, -9, 9, 9), [("b", 16)])


class NewListsTest(unittest.TestCase):
    def test_lists_are_new_each_time(self):
        for call in (lambda: unlike_points(SCENE, (), 4, 0, 6, 3), lambda: shares(SCENE, *WHOLE)):
            told = call()
            wanted = list(told)
            told.clear()
            self.assertEqual(call(), wanted)
            call().append("q")
            self.assertEqual(call(), wanted)
        unlike_points(SCENE, SCENE, *WHOLE).append("q")
        shares((), *WHOLE).append("q")
        self.assertEqual(unlike_points(SCENE, SCENE, *WHOLE), [])
        self.assertEqual(shares((), *WHOLE), [])

    def test_the_sample_is_what_hit_tells(self):
        self.assertEqual([hit(SCENE, 4, y) for y in range(4)], ["bb", "bb", "ab", "a"])


if __name__ == "__main__":
    unittest.main()
