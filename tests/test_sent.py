"""What boxes hear of hands, sent to a hall."""

import unittest

from samples import FAMILY
from touchtree.halls import Hall
from touchtree.hands import Hands, sent
from touchtree.scenes import cut


def hall_of(rows):
    hall = Hall(FAMILY)
    for name, word, is_down, deeds in rows:
        hall.hear(name, word, is_down, deeds, False)
    return hall


class SentTest(unittest.TestCase):
    def test_no_rows(self):
        self.assertEqual(sent(hall_of([]), []), ([], []))

    def test_no_hearers(self):
        self.assertEqual(sent(hall_of([]), [("enter", "a"), ("move", "d")]), ([], []))

    def test_row_by_row(self):
        hall = hall_of([("b", "move", True, ()), ("a", "enter", False, ()), ("a", "move", False, ()),
                        ("b", "enter", True, ())])
        told = sent(hall, [("enter", "a"), ("enter", "b"), ("move", "b"), ("leave", "b"), ("move", "c")])
        self.assertEqual(told, ([
            (1, "a", "enter", False),
            (3, "b", "enter", True), (1, "a", "enter", False),
            (0, "b", "move", True), (2, "a", "move", False),
            (2, "a", "move", False)], []))

    def test_the_rows_that_were_kept(self):
        hall = hall_of([("d", "move", True, (("keep",),)), ("a", "click", False, (("keep",),)),
                        ("b", "click", True, ())])
        told = sent(hall, [("move", "b"), ("move", "d"), ("click", "b"), ("enter", "d"), ("click", "a")])
        self.assertEqual(told[1], [1, 2, 4])
        self.assertEqual([row[0] for row in told[0]], [0, 2, 1, 1])

    def test_boxes_that_the_hall_does_not_have(self):
        hall = hall_of([("a", "move", True, (("keep",),))])
        told = sent(hall, [("move", "z"), ("move", ""), ("move", "a"), ("move", "abc"), ("move", "b")])
        self.assertEqual(told, ([(0, "a", "move", True)] * 2, [2, 4]))
        self.assertEqual(sent(Hall(()), [("move", "a")]), ([], []))

    def test_a_box_that_is_no_more_by_then(self):
        hall = hall_of([("a", "enter", True, (("cut", "b"), ("keep",))), ("a", "move", True, (("keep",),))])
        told = sent(hall, [("move", "d"), ("enter", "c"), ("move", "d"), ("move", "b"), ("move", "c")])
        self.assertEqual(told, ([(1, "a", "move", True), (0, "a", "enter", True), (1, "a", "move", True)], [0, 1, 4]))
        self.assertEqual(hall.boxes(), cut(FAMILY, "b"))

    def test_a_stop_does_not_touch_the_next_row(self):
        for stop in ("stop", "stopnow"):
            hall = hall_of([("a", "move", True, ((stop,),)), ("b", "move", True, ())])
            self.assertEqual(sent(hall, [("move", "b"), ("move", "b")])[0], [(0, "a", "move", True)] * 2)

    def test_calls_within_count_anew_in_each_row(self):
        hall = hall_of([("e", "move", True, (("call", "e", "move"),))])
        told = sent(hall, [("move", "e")] * 3)
        self.assertEqual(told, ([(0, "e", "move", True)] * 12, []))

    def test_a_call_kept_within_is_no_row_kept(self):
        hall = hall_of([("e", "move", True, (("call", "e", "key"),)), ("e", "key", True, (("keep",),))])
        self.assertEqual(sent(hall, [("move", "e"), ("key", "e")])[1], [1])

    def test_what_hands_tell(self):
        hands = Hands(FAMILY)
        hall = hall_of([("a", "enter", True, ()), ("d", "enter", False, (("keep",),)), ("d", "down", True, ()),
                        ("b", "click", False, (("keep",), ("stop",))), ("a", "click", False, ())])
        self.assertEqual(sent(hall, hands.down(0, 0, 4, 3)), ([
            (0, "a", "enter", True),
            (0, "a", "enter", True),
            (0, "a", "enter", True), (1, "d", "enter", False),
            (2, "d", "down", True)], [2]))
        self.assertEqual(sent(hall, hands.up(0, 0, 4, 3)), ([(3, "b", "click", False)], [1]))

    def test_rows_stay_as_they_were_and_lists_are_new(self):
        hall = hall_of([("a", "move", True, (("keep",),))])
        rows = [("move", "a"), ("move", "z")]
        first = sent(hall, rows)
        self.assertIsInstance(first, tuple)
        first[0].clear()
        first[1].append(7)
        self.assertEqual(sent(hall, rows), ([(0, "a", "move", True)], [0]))
        self.assertEqual(rows, [("move", "a"), ("move", "z")])
        empty = sent(hall, [])
        empty[0].append("q")
        empty[1].append("q")
        self.assertEqual(sent(hall, []), ([], []))


if __name__ == "__main__":
    unittest.main()
