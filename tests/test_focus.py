import unittest

from samples import FAMILY, box, chain_of, row_of
from touchtree.errors import NoBox
from touchtree.focus import Focus
from touchtree.scenes import cut, marked, put_at, raised, with_box

# k stands last in the scene, but is painted in b; h is hidden, and i in it.
KEYS = (
    box("a", marks="f"),
    box("b", "a"),
    box("c", "b", marks="cf"),
    box("d", "a", marks="f"),
    box("e", marks="l"),
    box("g", "e", marks="fl"),
    box("h", marks="fh"),
    box("i", "h", marks="f"),
    box("k", "b", marks="f"),
)
ORDER = ["a", "c", "k", "d", "g"]
STRANGERS = ("", "z", "aa", "ab", "A", "abcd", "f")
UNABLE = ("b", "e", "h", "i")


def keyed_row(many):
    return tuple(one[:6] + ("f",) for one in row_of(many))


class FocusCase(unittest.TestCase):
    def setUp(self):
        self.focus = Focus(KEYS)

    def check_keys(self, name, path=None):
        self.assertEqual(self.focus.now(), name)
        if name is None:
            self.assertEqual(self.focus.path(), [])
        elif path is not None:
            self.assertEqual(self.focus.path(), list(path))

    def check_order(self, names):
        self.assertEqual(self.focus.order(), list(names))

    def check_refused(self, call, *names):
        """Each of the names is refused, and nothing is changed then."""
        ahead = (self.focus.order(), self.focus.now(), self.focus.path())
        for name in names:
            with self.assertRaises(NoBox, msg=name):
                call(name)
            self.assertEqual((self.focus.order(), self.focus.now(), self.focus.path()), ahead, name)


class OrderTest(unittest.TestCase):
    def check(self, scene, names):
        self.assertEqual(Focus(scene).order(), list(names))

    def test_as_they_are_painted(self):
        self.check(KEYS, ORDER)
        self.check(keyed_row(12), "abcdefghijkl")
        self.check(tuple(one[:6] + ("f",) for one in chain_of(12)), "abcdefghijkl")

    def test_none_that_can_have_the_keys(self):
        self.check((), "")
        self.check(row_of(12), "")
        self.check((box("a", marks="cl"),), "")
        self.check((box("a", marks="fh"), box("b", "a", marks="f"), box("c", "b", marks="f")), "")

    def test_one_alone(self):
        self.check((box("a", marks="f"),), "a")
        self.check((box("a"), box("b", "a", marks="f"), box("c")), "b")
        self.check(FAMILY, "c")

    def test_hidden_ones_and_ones_in_hidden_boxes(self):
        self.check((box("a", marks="fh"), box("b", marks="f")), "b")
        chain = tuple(one[:6] + ("f",) for one in chain_of(5))
        for place, name in enumerate("abcde"):
            self.check(marked(chain, name, "fh"), "abcde"[:place])
            self.check(marked(chain, name, "h"), "abcde"[:place])

    def test_other_marks_and_areas_do_not_matter(self):
        scene = (
            box("a", marks="cfl"),
            box("b", "a", 20, 20, marks="f"),
            box("c", width=0, marks="f"),
            box("d", height=0, marks="f"),
            box("e", marks="f"),
            box("g", marks=""),
        )
        self.check(scene, "abcde")


class ToTest(FocusCase):
    def test_no_box_has_the_keys_at_first(self):
        self.check_keys(None)
        self.focus = Focus(())
        self.check_keys(None)
        self.focus = Focus(keyed_row(1))
        self.check_keys(None)

    def test_this_one_has(self):
        for name, path in (("c", "abc"), ("a", "a"), ("k", "abk"), ("g", "eg"), ("d", "ad"), ("d", "ad")):
            self.assertIsNone(self.focus.to(name))
            self.check_keys(name, path)

    def test_refused(self):
        self.check_refused(self.focus.to, *STRANGERS, *UNABLE)
        self.check_keys(None)
        self.focus.to("k")
        self.check_refused(self.focus.to, *STRANGERS, *UNABLE)
        self.check_keys("k", "abk")
        self.focus.keep_in("b")
        self.check_refused(self.focus.to, *STRANGERS, *UNABLE, "a", "d", "g")
        self.check_keys("k", "abk")

    def test_refused_in_the_empty_scene(self):
        self.focus = Focus(())
        self.check_refused(self.focus.to, *STRANGERS, "a")

    def test_drop(self):
        self.assertIsNone(self.focus.drop())
        self.check_keys(None)
        self.focus.to("c")
        self.assertIsNone(self.focus.drop())
        self.check_keys(None)
        self.check_order(ORDER)
        self.assertEqual(self.focus.go(1), "a")

    def test_drop_leaves_the_fence(self):
        self.focus.keep_in("b")
        self.focus.to("c")
        self.focus.drop()
        self.check_order("ck")
        self.check_keys(None)


class GoTest(FocusCase):
    def check_go(self, start, by, name):
        self.focus.drop()
        if start is not None:
            self.focus.to(start)
        self.assertEqual(self.focus.go(by), name, (start, by))
        self.check_keys(name)

    def test_from_none(self):
        for by, name in ((0, "a"), (1, "a"), (2, "c"), (3, "k"), (4, "d"), (5, "g")):
            self.check_go(None, by, name)
        for by, name in ((-1, "g"), (-2, "d"), (-3, "k"), (-4, "c"), (-5, "a")):
            self.check_go(None, by, name)

    def test_from_none_by_more_than_there_are(self):
        for by, name in ((6, "a"), (7, "c"), (10, "g"), (11, "a"), (5000001, "a"), (5000000, "g")):
            self.check_go(None, by, name)
        for by, name in ((-6, "g"), (-7, "d"), (-10, "a"), (-11, "g"), (-5000001, "g"), (-5000000, "a")):
            self.check_go(None, by, name)

    def test_from_a_box(self):
        for place, start in enumerate(ORDER):
            self.check_go(start, 0, start)
            self.check_go(start, 1, ORDER[place + 1] if place < 4 else "a")
            self.check_go(start, -1, ORDER[place - 1] if place > 0 else "g")
            self.check_go(start, 2, (ORDER + ORDER)[place + 2])
            self.check_go(start, -2, (ORDER + ORDER)[place + 3])

    def test_from_a_box_by_more_than_there_are(self):
        for start in ORDER:
            for rounds in (5, -5, 10, -10, 5000000, -5000000):
                self.check_go(start, rounds, start)
        for by, name in ((5, "c"), (6, "k"), (9, "a"), (-6, "a"), (-7, "g"), (13, "g"), (-13, "d")):
            self.check_go("c", by, name)

    def test_one_alone(self):
        self.focus = Focus(keyed_row(1))
        for by in (0, 1, -1, 2, -2, 99, -99):
            self.check_go(None, by, "a")
            self.check_go("a", by, "a")

    def test_where_order_is_empty(self):
        for scene in ((), row_of(3), (box("a", marks="fh"),)):
            self.focus = Focus(scene)
            for by in (0, 1, -1, 7, -7):
                self.assertIsNone(self.focus.go(by))
                self.check_keys(None)

    def test_where_order_has_become_empty(self):
        self.focus.to("c")
        self.focus.keep_in("h")
        for by in (0, 1, -1):
            self.assertIsNone(self.focus.go(by))
            self.check_keys(None)
        self.focus.keep_in(None)
        self.check_keys(None)
        self.assertEqual(self.focus.go(-1), "g")

    def test_within_a_fence(self):
        self.focus.keep_in("b")
        for start, by, name in ((None, 1, "c"), (None, 0, "c"), (None, -1, "k"), (None, 3, "c"), (None, -3, "k"),
                                ("c", 1, "k"), ("k", 1, "c"), ("c", -1, "k"), ("k", 0, "k"), ("k", 5, "c")):
            self.check_go(start, by, name)

    def test_path(self):
        for name, path in zip(ORDER, ("a", "abc", "abk", "ad", "eg")):
            self.assertEqual(self.focus.go(1), name)
            self.check_keys(name, path)


class FenceTest(FocusCase):
    def test_order_is_that_of_those_below_it(self):
        for name, names in (("a", "ackd"), ("b", "ck"), ("c", "c"), ("d", "d"), ("e", "g"), ("g", "g"),
                            ("h", ""), ("i", ""), ("k", "k")):
            self.assertIsNone(self.focus.keep_in(name))
            self.check_order(names)
            self.check_keys(None)

    def test_a_fence_in_a_hidden_box_has_none(self):
        self.focus.to("a")
        self.focus.keep_in("i")
        self.check_order("")
        self.check_keys(None)

    def test_the_keys_are_within_it(self):
        for fence, name in (("a", "a"), ("a", "d"), ("b", "k"), ("b", "c"), ("k", "k"), ("e", "g")):
            self.focus = Focus(KEYS)
            self.focus.to(name)
            self.assertIsNone(self.focus.keep_in(fence))
            self.check_keys(name)

    def test_the_keys_are_outside_of_it(self):
        for fence, name, first in (("a", "g", "a"), ("b", "a", "c"), ("b", "d", "c"), ("b", "g", "c"),
                                   ("k", "c", "k"), ("e", "k", "g"), ("d", "a", "d")):
            self.focus = Focus(KEYS)
            self.focus.to(name)
            self.assertIsNone(self.focus.keep_in(fence))
            self.check_keys(first)

    def test_had_by_none(self):
        self.focus.keep_in("b")
        self.check_keys(None)
        self.focus.keep_in("e")
        self.check_keys(None)
        self.focus.keep_in(None)
        self.check_keys(None)

    def test_without_any_box_that_can_have_them(self):
        scene = with_box(KEYS, box("m", "d"))
        for fence in ("m", "h", "i"):
            self.focus = Focus(scene)
            self.focus.to("k")
            self.assertIsNone(self.focus.keep_in(fence))
            self.check_order("")
            self.check_keys(None)
            self.check_refused(self.focus.to, *ORDER, *UNABLE)

    def test_taken_away(self):
        self.focus.to("d")
        self.focus.keep_in("b")
        self.check_keys("c")
        self.assertIsNone(self.focus.keep_in(None))
        self.check_order(ORDER)
        self.check_keys("c", "abc")
        self.assertIsNone(self.focus.keep_in(None))
        self.check_order(ORDER)
        self.check_keys("c", "abc")

    def test_one_in_the_place_of_another(self):
        self.focus.keep_in("b")
        self.focus.to("k")
        self.focus.keep_in("a")
        self.check_order("ackd")
        self.check_keys("k")
        self.focus.keep_in("e")
        self.check_order("g")
        self.check_keys("g", "eg")
        self.focus.keep_in("k")
        self.check_order("k")
        self.check_keys("k", "abk")

    def test_refused(self):
        self.check_refused(self.focus.keep_in, *STRANGERS)
        self.focus.to("k")
        self.check_refused(self.focus.keep_in, *STRANGERS)
        self.focus.keep_in("b")
        self.check_refused(self.focus.keep_in, *STRANGERS)
        self.check_order("ck")
        self.focus.change(cut(KEYS, "e"))
        self.check_refused(self.focus.keep_in, *STRANGERS, "e", "g")
        self.focus.change(())
        self.check_refused(self.focus.keep_in, *STRANGERS, "a", "b")


class ChangeCase(FocusCase):
    def start(self, name, fence=None):
        self.focus = Focus(KEYS)
        self.focus.keep_in(fence)
        if name is not None:
            self.focus.to(name)

    def check_change(self, name, scene, then, fence=None):
        self.start(name, fence)
        self.assertIsNone(self.focus.change(scene))
        self.check_keys(then)


class ChangeTest(ChangeCase):
    def test_another_scene(self):
        self.focus.change(keyed_row(3))
        self.check_order("abc")
        self.focus.change(())
        self.check_order("")
        self.focus.change(KEYS)
        self.check_order(ORDER)

    def test_had_by_none(self):
        for scene in ((), keyed_row(3), cut(KEYS, "a"), KEYS):
            self.check_change(None, scene, None)
            self.check_change(None, scene, None, "b")

    def test_still_in_order(self):
        for name in ORDER:
            self.check_change(name, KEYS, name)
            self.check_change(name, raised(KEYS, "a"), name)
            self.check_change(name, tuple(one[:6] + ("f",) for one in KEYS), name)
        self.check_change("g", cut(KEYS, "a"), "g")

    def test_path_in_the_other_scene(self):
        self.focus.to("k")
        self.focus.change((box("z"), box("k", "z", marks="f")))
        self.check_keys("k", "zk")

    def test_raised(self):
        scene = raised(KEYS, "c")
        self.check_change("c", scene, "c")
        self.check_order("akcdg")
        self.assertEqual(self.focus.go(1), "d")
        self.check_change("a", raised(KEYS, "a"), "a")
        self.check_order("gackd")
        self.assertEqual(self.focus.go(-1), "g")

    def test_moved_elsewhere(self):
        self.check_change("c", put_at(KEYS, "c", 20, 20), "c")

    def test_cut(self):
        self.check_change("c", cut(KEYS, "c"), "k")
        self.check_change("k", cut(KEYS, "k"), "d")
        self.check_change("d", cut(KEYS, "d"), "g")
        self.check_change("g", cut(KEYS, "g"), "a")

    def test_hidden(self):
        self.check_change("c", marked(KEYS, "c", "fh"), "k")
        self.check_change("g", marked(KEYS, "g", "fh"), "a")
        # In a box that is hidden now.
        self.check_change("g", marked(KEYS, "e", "h"), "a")
        self.check_change("k", marked(KEYS, "b", "h"), "d")

    def test_without_its_mark(self):
        self.check_change("a", marked(KEYS, "a", ""), "c")
        self.check_change("c", marked(KEYS, "c", "c"), "k")
        self.check_change("g", marked(KEYS, "g", "l"), "a")

    def test_the_next_one_too(self):
        self.check_change("c", cut(cut(KEYS, "c"), "k"), "d")
        self.check_change("c", cut(KEYS, "b"), "d")
        self.check_change("c", marked(cut(KEYS, "b"), "d", "fh"), "g")
        self.check_change("c", cut(marked(cut(KEYS, "b"), "d", ""), "e"), "a")
        self.check_change("d", cut(cut(KEYS, "d"), "g"), "a")
        self.check_change("d", marked(cut(cut(KEYS, "d"), "g"), "a", ""), "c")
        self.check_change("g", marked(cut(KEYS, "e"), "a", "h"), None)

    def test_the_order_ahead_counts_not_the_one_now(self):
        # Behind c there was k first, then d, whatever their places are now.
        scene = (box("d", marks="f"), box("a", marks="f"), box("g", marks="f"), box("k", marks="f"))
        self.check_change("c", scene, "k")
        self.check_change("c", scene[:3], "d")
        self.check_change("k", scene[1:3], "g")
        self.check_change("c", scene[1:2] + (box("z", marks="f"),), "a")

    def test_new_ones_come_behind_those_of_the_order_ahead(self):
        new = (box("z", marks="f"), box("y", marks="f"))
        self.check_change("c", new + (box("a", marks="f"),), "a")
        self.check_change("c", new + (box("a"), box("g", marks="f")), "g")
        # h had no keys to come to then, so it counts as a new one.
        self.check_change("d", (box("z", marks="f"), box("h", marks="f")), "z")
        self.check_change("d", (box("h", marks="f"), box("z", marks="f")), "h")

    def test_all_of_them(self):
        for name in ORDER:
            self.check_change(name, (), None)
            self.check_change(name, row_of(3), None)
            self.check_change(name, tuple(one[:6] + ("fh",) for one in KEYS), None)
            self.check_change(name, (box("z", marks="f"), box("y", marks="f")), "z")
            self.check_change(name, (box("z"), box("y", "z", marks="f")), "y")

    def test_keys_that_were_lost_do_not_come_back(self):
        self.check_change("c", (), None)
        self.focus.change(KEYS)
        self.check_keys(None)


class ChangeWithFenceTest(ChangeCase):
    def test_a_fence_that_is_still_there(self):
        self.start("c", "b")
        self.focus.change(cut(KEYS, "e"))
        self.check_order("ck")
        self.check_keys("c")

    def test_the_fence_in_another_place(self):
        self.start("c", "b")
        self.focus.change((box("b", marks="f"), box("a", "b", marks="f"), box("c", marks="f")))
        self.check_order("ba")
        self.check_keys("b")

    def test_the_keys_go_on_within_the_fence(self):
        self.check_change("c", marked(KEYS, "c", ""), "k", "b")
        self.check_change("k", marked(KEYS, "k", ""), "c", "b")
        self.check_change("k", cut(KEYS, "k"), "c", "b")
        self.check_change("d", cut(KEYS, "d"), "a", "a")
        self.check_change("c", marked(marked(KEYS, "c", ""), "k", "h"), None, "b")

    def test_the_fence_is_hidden(self):
        self.check_change("c", marked(KEYS, "b", "h"), None, "b")
        self.check_order("")
        self.focus.change(KEYS)
        self.check_order("ck")
        self.check_keys(None)

    def test_the_fence_is_no_more(self):
        self.start("c", "c")
        self.focus.change(cut(KEYS, "c"))
        self.check_order("akdg")
        # Of the order ahead, c alone, nobody is left.
        self.check_keys("a")

    def test_the_fence_is_no_more_but_who_was_in_it_is(self):
        scene = (box("z", marks="f"), box("k", marks="f"), box("c", marks="f"))
        self.check_change("c", scene, "c", "b")
        self.check_order("zkc")
        self.check_change("c", scene[:2], "k", "b")
        self.check_change("c", scene[:1], "z", "b")
        # d was behind c and k, but out of the fence.
        self.check_change("k", (box("z", marks="f"), box("d", marks="f")), "z", "b")

    def test_a_fence_that_was_no_more_does_not_come_back(self):
        for name in (None, "c"):
            self.start(name, "b")
            self.focus.change(cut(KEYS, "b"))
            self.check_order("adg")
            self.focus.change(KEYS)
            self.check_order(ORDER)

    def test_the_fence_and_all_boxes_are_no_more(self):
        self.check_change("c", (), None, "b")
        self.check_order("")
        self.focus.change(keyed_row(2))
        self.check_order("ab")


class NewListsTest(FocusCase):
    def test_order_and_path_are_new_each_time(self):
        self.focus.to("k")
        for fence, names in ((None, ORDER), ("b", ["c", "k"]), ("k", ["k"])):
            self.focus.keep_in(fence)
            self.focus.order().clear()
            self.focus.order().append("q")
            self.focus.path().clear()
            self.focus.path().insert(0, "q")
            self.check_order(names)
            self.check_keys("k", "abk")

    def test_empty_ones_too(self):
        self.focus = Focus(())
        self.focus.order().append("q")
        self.focus.path().append("q")
        self.check_order("")
        self.check_keys(None)

    def test_two_do_not_touch_each_other(self):
        other = Focus(KEYS)
        self.focus.to("c")
        other.to("g")
        self.focus.keep_in("b")
        self.check_order("ck")
        self.assertEqual((other.order(), other.now(), other.path()), (ORDER, "g", ["e", "g"]))
        other.change(keyed_row(2))
        other.go(1)
        self.check_order("ck")
        self.check_keys("c", "abc")
        self.assertEqual((other.order(), other.now()), (["a", "b"], "b"))
        other.drop()
        self.check_keys("c", "abc")
        self.assertEqual(Focus(KEYS).now(), None)


if __name__ == "__main__":
    unittest.main()
