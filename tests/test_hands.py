import unittest

from samples import FAMILY, box
from touchtree.errors import NoBox
from touchtree.hands import Hands
from touchtree.hits import hit
from touchtree.scenes import cut, marked, put_at

# A point for each box of the family that can be hit, and one where there is none.
AT = {"a": (1, 10), "b": (3, 6), "c": (9, 9), "d": (4, 3), None: (0, 0)}
STRANGERS = ("", "z", "aa", "ab", "abc", "A", "abcd")


def rows(text):
    """Rows (word, box) from a text such as "leave b enter c"."""
    parts = text.split()
    return list(zip(parts[::2], parts[1::2]))


class HandsCase(unittest.TestCase):
    def setUp(self):
        self.hands = Hands(FAMILY)

    def check_move(self, name, heard, hand=0, moment=0):
        self.assertEqual(self.hands.move(hand, moment, *AT[name]), rows(heard))

    def check_down(self, name, heard, hand=0, moment=0):
        self.assertEqual(self.hands.down(hand, moment, *AT[name]), rows(heard))

    def check_up(self, name, heard, hand=0, moment=0):
        self.assertEqual(self.hands.up(hand, moment, *AT[name]), rows(heard))

    def check_hand(self, over, holder, hand=0):
        self.assertEqual(self.hands.over(hand), list(over))
        self.assertEqual(self.hands.holder(hand), holder)


class SampleTest(unittest.TestCase):
    def test_the_points_hit_what_they_are_named_for(self):
        for name, (x, y) in AT.items():
            self.assertEqual(hit(FAMILY, x, y), name)


class AtFirstTest(HandsCase):
    def test_over_nothing_not_pressed_held_by_none(self):
        for hand in (0, 1, -7, 10 ** 9):
            self.check_hand("", None, hand)
            self.check_up("d", "", hand)
            self.assertIsNone(self.hands.free(hand))
            self.check_hand("", None, hand)

    def test_nothing_to_change(self):
        self.assertEqual(self.hands.change(()), [])
        self.assertEqual(Hands(()).change(FAMILY), [])


class MoveTest(HandsCase):
    def test_enter_the_first_one_first(self):
        self.check_move("d", "enter a enter b enter d move d")
        self.check_hand("abd", None)

    def test_leave_the_last_one_first(self):
        self.check_move("d", "enter a enter b enter d move d")
        self.check_move(None, "leave d leave b leave a")
        self.check_hand("", None)

    def test_the_first_ones_that_both_share_hear_nothing(self):
        self.check_move("d", "enter a enter b enter d move d")
        self.check_move("c", "leave d leave b enter c move c")
        self.check_move("b", "leave c enter b move b")
        self.check_move("d", "enter d move d")
        self.check_move("a", "leave d leave b move a")
        self.check_hand("a", None)

    def test_nothing_shared(self):
        scene = (box("a"), box("b", "a"), box("c", left=4), box("d", "c"))
        hands = Hands(scene)
        self.assertEqual(hands.move(0, 0, 1, 1), rows("enter a enter b move b"))
        self.assertEqual(hands.move(0, 0, 5, 1), rows("leave b leave a enter c enter d move d"))

    def test_staying_there(self):
        self.check_move("d", "enter a enter b enter d move d")
        for turn in range(3):
            self.check_move("d", "move d")
        self.assertEqual(self.hands.move(0, 0, 5, 4), rows("move d"))
        self.check_hand("abd", None)

    def test_over_none(self):
        self.check_move(None, "")
        self.check_move(None, "")
        self.check_hand("", None)
        self.assertEqual(Hands(()).move(0, 0, 1, 1), [])

    def test_held_by_a_box(self):
        self.check_move("b", "enter a enter b move b")
        self.hands.hold(0, "e")
        for name in ("d", None, "c"):
            self.check_move(name, "move e")
            self.check_hand("ab", "e")

    def test_pressed_and_held_by_none(self):
        self.check_down("d", "enter a enter b enter d down d")
        self.hands.free(0)
        self.check_move("c", "leave d leave b enter c move c")
        self.check_hand("ac", None)

    def test_moments_do_not_matter(self):
        self.check_move("a", "enter a move a", moment=50)
        self.check_move("a", "move a", moment=-50)


class DownTest(HandsCase):
    def test_led_there_first_and_held_by_the_last_box(self):
        self.check_down("d", "enter a enter b enter d down d")
        self.check_hand("abd", "d")

    def test_when_it_was_over_it(self):
        self.check_move("d", "enter a enter b enter d move d")
        self.check_down("d", "down d")
        self.check_hand("abd", "d")

    def test_when_it_was_elsewhere(self):
        self.check_move("c", "enter a enter c move c")
        self.check_down("b", "leave c enter b down b")
        self.check_hand("ab", "b")

    def test_at_no_box(self):
        self.check_move("a", "enter a move a")
        self.check_down(None, "leave a")
        self.check_hand("", None)
        self.check_down("d", "")
        self.check_hand("", None)

    def test_pressed_twice(self):
        self.check_down("d", "enter a enter b enter d down d")
        for name in ("d", "c", None):
            self.check_down(name, "")
            self.check_hand("abd", "d")
        # It was not pressed anew: what is clicked goes by the first time.
        self.check_up("d", "up d click d")

    def test_pressed_twice_held_by_none(self):
        self.check_down("d", "enter a enter b enter d down d")
        self.hands.free(0)
        self.check_down("c", "")
        self.check_hand("abd", None)

    def test_held_by_a_box_ahead(self):
        self.check_move("a", "enter a move a")
        self.hands.hold(0, "g")
        self.check_down("d", "down g")
        self.check_hand("a", "g")
        # It was pressed at d all the same.
        self.check_up("d", "up g click d enter b enter d")

    def test_held_by_a_box_ahead_at_no_box(self):
        self.hands.hold(0, "b")
        self.check_down(None, "down b")
        self.check_up("b", "up b enter a enter b")

    def test_as_long_as_it_is_held_no_other_box_hears_of_it(self):
        self.check_down("d", "enter a enter b enter d down d")
        for name in ("c", None, "a", "d"):
            self.check_move(name, "move d")
            self.check_hand("abd", "d")


class UpTest(HandsCase):
    def press(self, name, hand=0, moment=0):
        self.hands.down(hand, moment, *AT[name])

    def test_where_it_was_pressed(self):
        self.press("d")
        self.check_up("d", "up d click d")
        self.check_hand("abd", None)

    def test_a_click_of_a_shared_box(self):
        self.press("d")
        self.check_up("c", "up d click a leave d leave b enter c")
        self.check_hand("ac", None)
        self.press("c")
        self.check_up("a", "up c click a leave c", moment=50)
        self.press("d")
        self.check_up("b", "up d click b leave d")
        self.press("b")
        self.check_up("d", "up b click b enter d", moment=50)

    def test_a_click_of_none(self):
        self.press("d")
        self.check_up(None, "up d leave d leave b leave a")
        self.press(None)
        self.check_up("d", "enter a enter b enter d")
        self.press(None)
        self.check_up(None, "")
        self.check_hand("", None)

    def test_shared_from_the_top_on_alone(self):
        hands = Hands((box("a"), box("b", "a"), box("c", left=4)))
        hands.down(0, 0, 1, 1)
        hands.change((box("a"), box("c", left=4), box("b", "c")))
        # b lies on both paths, but they part at the top.
        self.assertEqual(hands.up(0, 0, 5, 1), rows("up b leave b leave a enter c enter b"))

    def test_not_pressed(self):
        self.check_up("d", "")
        self.check_move("c", "enter a enter c move c")
        self.check_up("d", "")
        self.check_hand("ac", None)

    def test_let_go_twice(self):
        self.press("d")
        self.check_up("d", "up d click d")
        self.check_up("d", "")
        self.check_up("c", "")
        self.check_hand("abd", None)

    def test_held_but_not_pressed(self):
        self.hands.hold(0, "c")
        self.check_up("c", "")
        self.check_hand("", "c")

    def test_held_by_another_box(self):
        self.press("d")
        self.hands.hold(0, "g")
        self.check_up("d", "up g click d")
        self.check_hand("abd", None)

    def test_held_by_none(self):
        self.press("d")
        self.hands.free(0)
        self.check_up("d", "click d")

    def test_pressed_again_behind_that(self):
        self.press("d")
        self.check_up("c", "up d click a leave d leave b enter c")
        self.check_down("c", "down c")
        self.check_hand("ac", "c")
        self.check_up("c", "up c click c")

    def test_led_last_of_all(self):
        self.press("a")
        self.check_up("d", "up a click a enter b enter d")
        self.check_hand("abd", None)

    def test_led_from_where_it_was_over_not_where_it_was_pressed(self):
        self.check_move("c", "enter a enter c move c")
        self.hands.hold(0, "e")
        self.press("d")
        self.check_up("b", "up e click b leave c enter b")


class DoubleTest(HandsCase):
    def tap(self, name, moment, hand=0, up_at=None):
        """The words that a box hears of a press and its end, without where the hand comes and goes."""
        self.hands.down(hand, moment, *AT[name])
        heard = self.hands.up(hand, moment, *AT[up_at or name])
        return [row for row in heard if row[0] in ("click", "double")]

    def check_taps(self, taps):
        for name, moment, words in taps:
            self.assertEqual(self.tap(name, moment), [(word, name) for word in words.split()])

    def test_at_20_and_21_later(self):
        for later, words in ((0, "click double"), (1, "click double"), (19, "click double"), (20, "click double"),
                             (21, "click"), (22, "click"), (1000, "click")):
            for start in (0, 5, -100, 700):
                self.setUp()
                self.check_taps([("d", start, "click"), ("d", start + later, words)])

    def test_the_first_click_early_or_late(self):
        for moment in (-30, -1, 0, 1, 20, 21):
            self.setUp()
            self.check_taps([("a", moment, "click")])

    def test_a_third_click(self):
        self.check_taps([("d", 0, "click"), ("d", 1, "click double"), ("d", 2, "click"), ("d", 3, "click double"),
                         ("d", 4, "click")])

    def test_one_that_came_too_late_begins_anew(self):
        self.check_taps([("d", 0, "click"), ("d", 21, "click"), ("d", 41, "click double"), ("d", 42, "click")])

    def test_of_another_box(self):
        self.check_taps([("d", 0, "click"), ("c", 1, "click"), ("d", 2, "click"), ("d", 3, "click double"),
                         ("c", 4, "click"), ("c", 5, "click double")])

    def test_another_box_behind_a_double(self):
        self.check_taps([("d", 0, "click"), ("d", 1, "click double"), ("c", 2, "click"), ("c", 3, "click double")])

    def test_of_a_shared_box(self):
        self.assertEqual(self.tap("d", 0, up_at="c"), rows("click a"))
        self.assertEqual(self.tap("c", 5, up_at="b"), rows("click a double a"))
        self.assertEqual(self.tap("a", 6), rows("click a"))

    def test_a_press_without_a_click_does_not_come_between(self):
        self.check_taps([("d", 0, "click")])
        self.hands.down(0, 5, *AT[None])
        self.check_up("d", "enter a enter b enter d", moment=6)
        self.check_taps([("d", 20, "click double")])

    def test_the_moment_is_that_of_up(self):
        self.check_down("d", "enter a enter b enter d down d", moment=0)
        self.check_up("d", "up d click d", moment=100)
        self.check_down("d", "down d", moment=101)
        self.check_up("d", "up d click d double d", moment=120)
        self.check_down("d", "down d", moment=120)
        self.check_up("d", "up d click d", moment=121)
        self.check_down("d", "down d", moment=122)
        self.check_up("d", "up d click d", moment=142)

    def test_each_hand_by_itself(self):
        self.assertEqual(self.tap("d", 0, 1), rows("click d"))
        self.assertEqual(self.tap("d", 1, 2), rows("click d"))
        self.assertEqual(self.tap("c", 2, 2), rows("click c"))
        self.assertEqual(self.tap("d", 3, 1), rows("click d double d"))

    def test_double_comes_ahead_of_being_led(self):
        self.check_down("d", "enter a enter b enter d down d")
        self.check_up("c", "up d click a leave d leave b enter c")
        self.check_down("c", "down c")
        self.check_up("d", "up c click a double a leave c enter b enter d")


class HoldTest(HandsCase):
    def test_the_box_holds_the_hand(self):
        for name in ("d", "a", "e", "g", "f"):
            self.assertIsNone(self.hands.hold(0, name))
            self.check_hand("", name)
            self.check_move("d", f"move {name}")
            self.check_move(None, f"move {name}")

    def test_no_box(self):
        for name in STRANGERS:
            self.assertRaises(NoBox, self.hands.hold, 0, name)
            self.check_hand("", None)
        self.check_down("d", "enter a enter b enter d down d")
        for name in STRANGERS:
            self.assertRaises(NoBox, self.hands.hold, 0, name)
            self.check_hand("abd", "d")
        self.assertRaises(NoBox, Hands(()).hold, 0, "a")

    def test_no_box_of_one_that_is_no_more(self):
        self.hands.change(cut(FAMILY, "b"))
        self.assertRaises(NoBox, self.hands.hold, 0, "d")
        self.hands.change(FAMILY)
        self.assertIsNone(self.hands.hold(0, "d"))

    def test_free(self):
        self.hands.hold(0, "d")
        self.assertIsNone(self.hands.free(0))
        self.check_hand("", None)
        self.check_move("a", "enter a move a")
        self.assertIsNone(self.hands.free(0))

    def test_each_hand_by_itself(self):
        self.hands.hold(1, "d")
        self.hands.hold(2, "c")
        self.check_hand("", "d", 1)
        self.check_hand("", "c", 2)
        self.check_hand("", None, 0)
        self.hands.free(1)
        self.check_hand("", None, 1)
        self.check_hand("", "c", 2)
        self.check_move("a", "enter a move a", 1)
        self.check_move("a", "move c", 2)
        self.check_down("b", "enter a enter b down b", 3)
        self.check_move("a", "move a", 1)
        self.check_hand("ab", "b", 3)

    def test_several_hands_over_one_box(self):
        self.check_move("d", "enter a enter b enter d move d", 1)
        self.check_move("d", "enter a enter b enter d move d", 2)
        self.check_move(None, "leave d leave b leave a", 1)
        self.check_move("d", "move d", 2)

    def test_over_is_a_new_list_each_time(self):
        self.check_move("d", "enter a enter b enter d move d")
        self.hands.over(0).append("q")
        self.hands.over(0).clear()
        self.hands.over(5).append("q")
        self.check_hand("abd", None)
        self.check_hand("", None, 5)
        self.check_move("d", "move d")
        self.check_down("d", "down d")
        self.hands.over(0).clear()
        self.check_up("d", "up d click d")

    def test_what_is_heard_is_a_new_list_each_time(self):
        self.hands.move(0, 0, *AT["d"]).append("q")
        self.hands.move(0, 0, *AT["d"]).clear()
        self.check_move("d", "move d")
        self.hands.down(0, 0, *AT["d"]).clear()
        self.hands.down(0, 0, *AT["d"]).append("q")
        self.check_down("d", "")
        self.hands.up(0, 0, *AT["d"]).clear()
        self.hands.up(0, 0, *AT["d"]).append("q")
        self.check_up("d", "")
        self.check_hand("abd", None)


class ChangeTest(HandsCase):
    def test_boxes_that_are_no_more_are_taken_out_of_what_hands_are_over(self):
        self.check_move("d", "enter a enter b enter d move d", 1)
        self.check_move("c", "enter a enter c move c", 2)
        self.assertEqual(self.hands.change(cut(FAMILY, "b")), [])
        self.check_hand("a", None, 1)
        self.check_hand("ac", None, 2)
        self.check_move("c", "enter c move c", 1)

    def test_they_hear_no_leave(self):
        self.check_move("d", "enter a enter b enter d move d")
        self.hands.change(cut(FAMILY, "a"))
        self.check_move("d", "")
        self.check_hand("", None)

    def test_one_taken_out_between_others(self):
        self.check_move("d", "enter a enter b enter d move d")
        self.hands.change((box("a", width=9, height=9), box("d", "a", 3, 3)))
        self.check_hand("ad", None)
        self.check_move("d", "move d")
        self.assertEqual(self.hands.move(0, 0, 0, 0), rows("leave d move a"))

    def test_boxes_that_are_taken_out_of_what_it_was_pressed_at(self):
        self.check_down("d", "enter a enter b enter d down d")
        self.hands.change(cut(FAMILY, "d"))
        self.check_up("b", "click b")

    def test_all_that_it_was_pressed_at_is_no_more(self):
        self.check_down("d", "enter a enter b enter d down d")
        self.hands.change(cut(FAMILY, "a"))
        self.check_down("d", "")
        self.hands.change(FAMILY)
        # Still pressed, at no box now.
        self.check_up("d", "enter a enter b enter d")
        self.check_up("d", "")

    def test_a_held_box_that_is_no_more(self):
        self.check_down("d", "enter a enter b enter d down d")
        self.assertEqual(self.hands.change(cut(FAMILY, "d")), [(0, "d")])
        self.check_hand("ab", None)
        self.check_move("c", "leave b enter c move c")
        self.check_up("c", "click a")

    def test_by_hands(self):
        for hand, name in ((5, "d"), (-3, "b"), (11, "c"), (0, "f"), (2, "d"), (7, "a")):
            self.hands.hold(hand, name)
        self.hands.move(9, 0, *AT["d"])
        self.assertEqual(self.hands.change(cut(FAMILY, "b")), [(-3, "b"), (0, "f"), (2, "d"), (5, "d")])
        for hand, holder in ((5, None), (-3, None), (11, "c"), (0, None), (2, None), (7, "a"), (9, None)):
            self.assertEqual(self.hands.holder(hand), holder)
        self.assertEqual(self.hands.change(()), [(7, "a"), (11, "c")])
        self.assertEqual(self.hands.change(()), [])

    def test_a_box_that_was_let_go_is_not_told(self):
        self.hands.hold(0, "d")
        self.hands.free(0)
        self.hands.hold(1, "d")
        self.hands.hold(1, "a")
        self.check_down("d", "enter a enter b enter d down d", 2)
        self.check_up("d", "up d click d", 2)
        self.assertEqual(self.hands.change(cut(FAMILY, "d")), [])

    def test_boxes_that_are_still_there(self):
        self.check_move("d", "enter a enter b enter d move d")
        self.hands.hold(0, "d")
        # Hidden, or moved away, they are there all the same.
        self.assertEqual(self.hands.change(marked(put_at(FAMILY, "a", 20, 20), "b", "h")), [])
        self.check_hand("abd", "d")
        self.check_move(None, "move d")

    def test_the_new_scene_tells_what_is_hit(self):
        self.check_move("d", "enter a enter b enter d move d")
        self.hands.change(marked(FAMILY, "b", "h"))
        self.check_hand("abd", None)
        self.check_move("d", "leave d leave b move a")
        self.hands.change(FAMILY)
        self.check_down("d", "enter b enter d down d")
        self.hands.change(marked(FAMILY, "d", "h"))
        self.check_up("d", "up d click b leave d")

    def test_a_box_that_is_there_again_is_not_what_it_was_over(self):
        self.check_move("d", "enter a enter b enter d move d")
        self.hands.change(cut(FAMILY, "d"))
        self.hands.change(FAMILY)
        self.check_hand("ab", None)
        self.check_move("d", "enter d move d")

    def test_the_last_click_stays(self):
        self.check_down("d", "enter a enter b enter d down d")
        self.check_up("d", "up d click d", moment=5)
        self.hands.change(marked(put_at(FAMILY, "d", 1, -1), "c", "h"))
        self.check_down("d", "down d", moment=6)
        self.check_up("d", "up d click d double d", moment=7)

    def test_a_new_list_each_time(self):
        self.hands.change(FAMILY).append("q")
        self.assertEqual(self.hands.change(FAMILY), [])


class TwoSetsTest(unittest.TestCase):
    def test_they_do_not_touch_each_other(self):
        one, other = Hands(FAMILY), Hands(FAMILY)
        one.down(0, 0, *AT["d"])
        self.assertEqual((other.over(0), other.holder(0)), ([], None))
        self.assertEqual(other.up(0, 0, *AT["d"]), [])
        one.up(0, 0, *AT["d"])
        other.down(0, 1, *AT["d"])
        self.assertEqual(other.up(0, 1, *AT["d"]), rows("up d click d"))
        other.hold(0, "c")
        self.assertEqual(one.change(()), [])
        self.assertEqual((other.over(0), other.holder(0)), (["a", "b", "d"], "c"))
        self.assertEqual(other.change(()), [(0, "c")])

    def test_what_is_handed_in_stays_as_it_was(self):
        scene = tuple(tuple(one) for one in FAMILY)
        hands = Hands(scene)
        hands.down(0, 0, *AT["d"])
        hands.change(cut(scene, "b"))
        hands.change(scene)
        hands.up(0, 0, *AT["c"])
        self.assertEqual(scene, FAMILY)


if __name__ == "__main__":
    unittest.main()
