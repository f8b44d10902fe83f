import unittest

from samples import FAMILY, FAMILY_PAINTED, LETTERS, Canvas, box, chain_of, many_scenes, row_of
from touchtree.errors import NoBox, Taken, TooMany
from touchtree.scenes import (
    area_of, below, box_of, children, cut, is_scene, marked, painted, path_of, put_at, raised, with_box,
)

STRANGERS = ("", "z", "aa", "ab", "abc", "A", "abcd")


class RefusalCase(unittest.TestCase):
    def check_no_box(self, ask):
        for scene in (FAMILY, (), row_of(12)):
            for name in STRANGERS:
                with self.subTest(scene=scene, name=name):
                    self.assertRaises(NoBox, ask, scene, name)


class BoxOfTest(RefusalCase):
    def test_each_box(self):
        for one in FAMILY + row_of(12) + chain_of(12):
            scene = next(s for s in (FAMILY, row_of(12), chain_of(12)) if one in s)
            self.assertEqual(box_of(scene, one[0]), one)

    def test_names_that_begin_alike(self):
        scene = (box("abc"), box("ab", left=1), box("a", left=2), box("b", left=3))
        for one in scene:
            self.assertEqual(box_of(scene, one[0]), one)

    def test_a_name_that_no_box_has(self):
        self.check_no_box(box_of)


class PathOfTest(RefusalCase):
    def test_paths(self):
        for name, path in (("a", ["a"]), ("b", ["a", "b"]), ("c", ["a", "c"]), ("d", ["a", "b", "d"]),
                           ("e", ["e"]), ("f", ["a", "b", "f"]), ("g", ["g"])):
            self.assertEqual(path_of(FAMILY, name), path)

    def test_12_deep(self):
        for many in range(1, 13):
            self.assertEqual(path_of(chain_of(12), LETTERS[many - 1]), list(LETTERS[:many]))

    def test_a_name_that_no_box_has(self):
        self.check_no_box(path_of)

    def test_a_new_list_each_time(self):
        path_of(FAMILY, "d").append("q")
        path_of(FAMILY, "b").reverse()
        self.assertEqual(path_of(FAMILY, "d"), ["a", "b", "d"])
        self.assertEqual(path_of(FAMILY, "b"), ["a", "b"])


class ChildrenTest(unittest.TestCase):
    def test_right_in_a_box(self):
        for name, names in (("a", ["b", "c"]), ("b", ["d", "f"]), ("c", []), ("d", []), ("e", []), ("g", [])):
            self.assertEqual(children(FAMILY, name), names)

    def test_at_the_top(self):
        self.assertEqual(children(FAMILY, ""), ["a", "e", "g"])
        self.assertEqual(children(row_of(12), ""), list(LETTERS[:12]))
        self.assertEqual(children((), ""), [])

    def test_in_the_scenes_order(self):
        scene = (box("m"), box("z", "m"), box("b", "m"), box("y"), box("a", "m"))
        self.assertEqual(children(scene, "m"), ["z", "b", "a"])
        self.assertEqual(children(scene, ""), ["m", "y"])

    def test_of_a_name_that_no_box_has(self):
        for name in ("z", "aa", "ab", "abc"):
            self.assertEqual(children(FAMILY, name), [])
            self.assertEqual(children((), name), [])

    def test_a_new_list_each_time(self):
        for name, names in (("", ["a", "e", "g"]), ("a", ["b", "c"]), ("c", []), ("z", [])):
            children(FAMILY, name).append("q")
            self.assertEqual(children(FAMILY, name), names)


class PaintedTest(unittest.TestCase):
    def test_each_box_and_then_all_in_it(self):
        self.assertEqual(painted(FAMILY), FAMILY_PAINTED)
        self.assertEqual(painted(row_of(12)), list(LETTERS[:12]))
        self.assertEqual(painted(chain_of(12)), list(LETTERS[:12]))

    def test_no_box_at_all(self):
        self.assertEqual(painted(()), [])

    def test_not_the_order_of_names(self):
        scene = (box("z"), box("a"), box("y", "z"), box("b", "a"), box("x", "y"), box("c", "z"))
        self.assertEqual(painted(scene), ["z", "y", "x", "c", "a", "b"])

    def test_hidden_and_empty_boxes_too(self):
        scene = (box("a", marks="h"), box("b", "a", width=0), box("c", height=0, marks="chl"))
        self.assertEqual(painted(scene), ["a", "b", "c"])

    def test_a_new_list_each_time(self):
        painted(FAMILY).clear()
        painted(()).append("q")
        self.assertEqual(painted(FAMILY), FAMILY_PAINTED)
        self.assertEqual(painted(()), [])

    def test_many_scenes(self):
        for scene in many_scenes(60):
            self.assertEqual(painted(scene), Canvas(scene).order)


class BelowTest(RefusalCase):
    def test_a_box_and_all_in_it(self):
        for name, names in (("a", ["a", "b", "d", "f", "c"]), ("b", ["b", "d", "f"]), ("c", ["c"]),
                            ("d", ["d"]), ("e", ["e"]), ("g", ["g"])):
            self.assertEqual(below(FAMILY, name), names)

    def test_12_deep(self):
        for many in range(12):
            self.assertEqual(below(chain_of(12), LETTERS[many]), list(LETTERS[many:12]))

    def test_a_name_that_no_box_has(self):
        self.check_no_box(below)

    def test_a_new_list_each_time(self):
        below(FAMILY, "b").append("q")
        self.assertEqual(below(FAMILY, "b"), ["b", "d", "f"])

    def test_many_scenes(self):
        for scene in many_scenes(60):
            canvas = Canvas(scene)
            for one in scene:
                inner = canvas.inner(one[0])
                self.assertEqual(below(scene, one[0]), [name for name in canvas.order if name in inner])


class AreaOfTest(RefusalCase):
    def test_sums_along_the_path(self):
        for name, area in (("a", (1, 2, 11, 11)), ("b", (3, 3, 8, 7)), ("c", (4, 5, 10, 10)),
                           ("d", (4, 1, 7, 5)), ("e", (-4, -3, 4, 4)), ("g", (15, 0, 17, 2)),
                           ("f", (6, 6, 10, 10))):
            told = area_of(FAMILY, name)
            self.assertEqual(told, area)
            self.assertIsInstance(told, tuple)

    def test_12_deep(self):
        for many in range(1, 13):
            size = 20 - many + 1
            area = (many, -2 * many, many + size, -2 * many + size)
            self.assertEqual(area_of(chain_of(12), LETTERS[many - 1]), area)

    def test_edges(self):
        scene = (box("a", "", -20, 20, 0, 20), box("b", "a", -20, 20, 20, 0), box("c", "b", 20, -20, 0, 0))
        self.assertEqual(area_of(scene, "a"), (-20, 20, -20, 40))
        self.assertEqual(area_of(scene, "b"), (-40, 40, -20, 40))
        self.assertEqual(area_of(scene, "c"), (-20, 20, -20, 20))

    def test_marks_do_not_matter(self):
        scene = (box("a", "", 1, 2, 3, 4, "ch"), box("b", "a", 5, 6, 7, 8, "cfhl"))
        self.assertEqual(area_of(scene, "b"), (6, 8, 13, 16))

    def test_a_name_that_no_box_has(self):
        self.check_no_box(area_of)


class WithBoxTest(unittest.TestCase):
    def test_behind_all_others(self):
        for one in (box("z"), box("z", "a"), box("z", "g"), box("aa", "f", -20, 20, 0, 20, "cfhl")):
            self.assertEqual(with_box(FAMILY, one), FAMILY + (one,))
            self.assertIs(is_scene(with_box(FAMILY, one)), True)

    def test_the_first_box(self):
        self.assertEqual(with_box((), box()), (box(),))

    def test_till_there_are_12(self):
        scene = ()
        for one in row_of(12):
            scene = with_box(scene, one)
        self.assertEqual(scene, row_of(12))

    def test_taken(self):
        for name in FAMILY_PAINTED:
            self.assertRaises(Taken, with_box, FAMILY, box(name))
            self.assertRaises(Taken, with_box, FAMILY, box(name, "a"))
        for one in FAMILY:
            self.assertRaises(Taken, with_box, FAMILY, one)

    def test_no_box_around(self):
        self.assertRaises(NoBox, with_box, FAMILY, box("z", "y"))
        self.assertRaises(NoBox, with_box, FAMILY, box("z", "z"))
        self.assertRaises(NoBox, with_box, FAMILY, box("z", "aa"))
        self.assertRaises(NoBox, with_box, (), box("a", "b"))
        self.assertRaises(NoBox, with_box, (), box("a", "a"))

    def test_too_many(self):
        for scene in (row_of(12), chain_of(12)):
            self.assertRaises(TooMany, with_box, scene, box("z"))
            self.assertRaises(TooMany, with_box, scene, box("z", "a"))
            self.assertRaises(TooMany, with_box, scene, box("z", "l"))

    def test_the_order_of_the_refusals(self):
        self.assertRaises(Taken, with_box, FAMILY, box("a", "y"))
        self.assertRaises(Taken, with_box, row_of(12), box("a"))
        self.assertRaises(Taken, with_box, row_of(12), box("l", "y"))
        self.assertRaises(NoBox, with_box, row_of(12), box("z", "y"))
        self.assertRaises(NoBox, with_box, row_of(12), box("z", "z"))

    def test_nothing_else_is_refused(self):
        for one in (box("wxyz"), box("z", "a", 21, -21, 21, 22), box("z", "", 25, 25)):
            self.assertEqual(with_box(FAMILY, one), FAMILY + (one,))


class CutTest(RefusalCase):
    def test_without_the_box_and_all_in_it(self):
        for name, left in (("a", "eg"), ("b", "aceg"), ("c", "abedgf"), ("d", "abcegf"), ("e", "abcdgf"),
                           ("g", "abcedf"), ("f", "abcedg")):
            kept = tuple(one for one in FAMILY if one[0] in left)
            self.assertEqual(cut(FAMILY, name), kept)

    def test_the_last_box(self):
        self.assertEqual(cut((box("a"),), "a"), ())
        self.assertEqual(cut(chain_of(12), "a"), ())
        self.assertEqual(cut(chain_of(12), "l"), chain_of(11))

    def test_a_name_that_no_box_has(self):
        self.check_no_box(cut)

    def test_many_scenes(self):
        for scene in many_scenes(40):
            for one in scene:
                gone = Canvas(scene).inner(one[0])
                told = cut(scene, one[0])
                self.assertEqual(told, tuple(other for other in scene if other[0] not in gone))
                self.assertIs(is_scene(told), True)


class RaisedTest(RefusalCase):
    def check_order(self, name, order):
        told = raised(FAMILY, name)
        self.assertEqual(told, tuple(box_of(FAMILY, letter) for letter in order))
        self.assertIs(is_scene(told), True)

    def test_behind_all_others_in_the_scenes_order(self):
        self.check_order("a", "egabcdf")
        self.check_order("b", "acegbdf")
        self.check_order("c", "abedgfc")
        self.check_order("d", "abcegfd")
        self.check_order("e", "abcdgfe")
        self.check_order("g", "abcedfg")

    def test_what_stands_last_stays(self):
        self.check_order("f", "abcedgf")
        self.assertEqual(raised(chain_of(12), "l"), chain_of(12))
        self.assertEqual(raised(chain_of(12), "a"), chain_of(12))

    def test_it_is_painted_over_all_others_around_it(self):
        self.assertEqual(painted(raised(FAMILY, "a")), ["e", "g", "a", "b", "d", "f", "c"])
        self.assertEqual(painted(raised(FAMILY, "b")), ["a", "c", "b", "d", "f", "e", "g"])

    def test_a_name_that_no_box_has(self):
        self.check_no_box(raised)

    def test_many_scenes(self):
        for scene in many_scenes(40):
            for one in scene:
                lifted = Canvas(scene).inner(one[0])
                told = raised(scene, one[0])
                self.assertEqual(told, tuple(sorted(scene, key=lambda other: other[0] in lifted)))
                self.assertIs(is_scene(told), True)


class MarkedTest(RefusalCase):
    def test_it_has_these_marks(self):
        for place, one in enumerate(FAMILY):
            for marks in ("", "c", "f", "h", "l", "cl", "cfhl"):
                told = marked(FAMILY, one[0], marks)
                self.assertEqual(told, FAMILY[:place] + (one[:6] + (marks,),) + FAMILY[place + 1:])
                self.assertIs(is_scene(told), True)

    def test_a_name_that_no_box_has(self):
        self.check_no_box(lambda scene, name: marked(scene, name, "c"))


class PutAtTest(RefusalCase):
    def test_it_lies_there(self):
        for place, one in enumerate(FAMILY):
            for left, top in ((0, 0), (3, -7), (-20, 20), (20, -20)):
                told = put_at(FAMILY, one[0], left, top)
                self.assertEqual(told, FAMILY[:place] + (one[:2] + (left, top) + one[4:],) + FAMILY[place + 1:])
                self.assertIs(is_scene(told), True)

    def test_nothing_is_refused_for_its_size(self):
        self.assertEqual(put_at((box("a"),), "a", 21, -25), (box("a", left=21, top=-25),))

    def test_a_name_that_no_box_has(self):
        self.check_no_box(lambda scene, name: put_at(scene, name, 1, 2))


class HandedInTest(unittest.TestCase):
    def test_scenes_are_tuples_of_tuples(self):
        for told in (with_box(FAMILY, box("z")), cut(FAMILY, "b"), raised(FAMILY, "a"),
                     marked(FAMILY, "a", "h"), put_at(FAMILY, "a", 1, 1)):
            self.assertIsInstance(told, tuple)
            for one in told:
                self.assertIsInstance(one, tuple)

    def test_what_is_handed_in_stays_as_it_was(self):
        scene = tuple(tuple(one) for one in FAMILY)
        for name in FAMILY_PAINTED:
            cut(scene, name)
            raised(scene, name)
            marked(scene, name, "cfhl")
            put_at(scene, name, 20, 20)
        with_box(scene, box("z"))
        self.assertEqual(scene, FAMILY)
        self.assertEqual(painted(scene), FAMILY_PAINTED)

    def test_what_is_refused_changes_nothing(self):
        scene = row_of(12)
        for one in (box("a"), box("z", "y"), box("z")):
            self.assertRaises(ValueError, with_box, scene, one)
        for ask in (cut, raised, box_of, path_of, below, area_of):
            self.assertRaises(NoBox, ask, scene, "z")
        self.assertEqual(scene, row_of(12))
        self.assertEqual(painted(scene), list(LETTERS[:12]))
        self.assertEqual(children(scene, "z"), [])

    def test_nothing_is_kept_from_one_scene_to_another(self):
        other = (box("b"), box("a", "b", 5, 5, 1, 1), box("d", "a", 1, 1))
        for turn in range(2):
            self.assertEqual(path_of(FAMILY, "d"), ["a", "b", "d"])
            self.assertEqual(path_of(other, "d"), ["b", "a", "d"])
            self.assertEqual(painted(FAMILY), FAMILY_PAINTED)
            self.assertEqual(painted(other), ["b", "a", "d"])
            self.assertEqual(area_of(FAMILY, "d"), (4, 1, 7, 5))
            self.assertEqual(area_of(other, "d"), (6, 6, 10, 10))


if __name__ == "__main__":
    unittest.main()
