import unittest

from samples import FAMILY, FAMILY_PAINTED, LETTERS, chain_of, row_of
from touchtree.errors import NoBox, NoNumber
from touchtree.halls import Hall
from touchtree.scenes import cut

STRANGERS = ("", "z", "aa", "ab", "abc", "A", "abcd")


def plain(hall, name, word="tap", is_down=False):
    """One more hearer without deeds, called as often as it comes."""
    return hall.hear(name, word, is_down, (), False)


def called(hall, name, word="tap"):
    """The numbers of all that a call calls."""
    return [row[0] for row in hall.call(name, word)[0]]


class HearTest(unittest.TestCase):
    def test_numbered_from_0_as_they_come(self):
        hall = Hall(FAMILY)
        asked = (("a", "tap", True, (), False), ("d", "tap", False, (("stop",),), True), ("a", "tap", True, (), False),
                 ("g", "", False, (), False), ("e", "any text\n", True, (("keep",), ("cut", "e")), False))
        for number, one in enumerate(asked):
            self.assertEqual(hall.hear(*one), number)

    def test_numbers_are_not_given_again(self):
        hall = Hall(FAMILY)
        plain(hall, "a")
        plain(hall, "a")
        hall.unhear(1)
        self.assertEqual(plain(hall, "a"), 2)
        hall.unhear(2)
        hall.unhear(0)
        self.assertEqual(plain(hall, "b"), 3)

    def test_no_box(self):
        hall = Hall(FAMILY)
        plain(hall, "a")
        for name in STRANGERS:
            for is_down in (True, False):
                self.assertRaises(NoBox, hall.hear, name, "tap", is_down, (), False)
                self.assertEqual(hall.numbers(name, "tap", is_down), [])
        self.assertEqual(plain(hall, "a"), 1)
        self.assertRaises(NoBox, Hall(()).hear, "a", "tap", True, (), False)

    def test_no_box_of_one_that_is_no_more(self):
        hall = Hall(FAMILY)
        hall.cut("b")
        for name in ("b", "d", "f"):
            self.assertRaises(NoBox, hall.hear, name, "tap", True, (), False)
        self.assertEqual(plain(hall, "a"), 0)

    def test_deeds_are_not_done_till_it_is_called(self):
        hall = Hall(FAMILY)
        hall.hear("a", "tap", True, (("cut", "b"), ("hear", "a", "tap", True), ("unhear", 0)), True)
        self.assertEqual(hall.boxes(), FAMILY)
        self.assertEqual(hall.numbers("a", "tap", True), [0])


class UnhearTest(unittest.TestCase):
    def test_it_is_no_more(self):
        hall = Hall(FAMILY)
        for name in ("a", "b", "a"):
            plain(hall, name)
        self.assertIsNone(hall.unhear(0))
        self.assertEqual(hall.numbers("a", "tap", False), [2])
        self.assertEqual(called(hall, "b"), [1, 2])
        self.assertIsNone(hall.unhear(2))
        self.assertEqual(called(hall, "b"), [1])

    def test_numbers_that_are_none(self):
        hall = Hall(FAMILY)
        for number in (0, 1, -1):
            self.assertRaises(NoNumber, hall.unhear, number)
        plain(hall, "a")
        plain(hall, "b")
        for number in (2, 3, -1, -2, -3, 1000):
            self.assertRaises(NoNumber, hall.unhear, number)
        self.assertEqual(called(hall, "b"), [1, 0])
        self.assertEqual(plain(hall, "a"), 2)

    def test_numbers_that_are_no_more(self):
        hall = Hall(FAMILY)
        plain(hall, "a")
        plain(hall, "a")
        hall.unhear(0)
        self.assertRaises(NoNumber, hall.unhear, 0)
        self.assertEqual(called(hall, "a"), [1])

    def test_one_that_was_called_once_alone(self):
        hall = Hall(FAMILY)
        hall.hear("a", "tap", True, (), True)
        hall.call("a", "tap")
        self.assertRaises(NoNumber, hall.unhear, 0)

    def test_one_of_a_box_that_is_no_more(self):
        hall = Hall(FAMILY)
        plain(hall, "d")
        hall.cut("b")
        self.assertIsNone(hall.unhear(0))
        self.assertEqual(hall.numbers("d", "tap", False), [])
        self.assertRaises(NoNumber, hall.unhear, 0)


class NumbersTest(unittest.TestCase):
    def setUp(self):
        self.hall = Hall(FAMILY)
        for name, word, is_down in (("a", "tap", True), ("a", "tap", False), ("b", "tap", True), ("a", "key", True),
                                    ("a", "tap", True), ("b", "tap", False), ("a", "tap", False), ("a", "", True)):
            self.hall.hear(name, word, is_down, (), False)

    def test_of_a_box_for_a_word_down_or_up(self):
        for name, word, is_down, told in (("a", "tap", True, [0, 4]), ("a", "tap", False, [1, 6]),
                                          ("b", "tap", True, [2]), ("b", "tap", False, [5]),
                                          ("a", "key", True, [3]), ("a", "", True, [7])):
            self.assertEqual(self.hall.numbers(name, word, is_down), told)

    def test_none(self):
        for name, word, is_down in (("a", "key", False), ("b", "key", True), ("c", "tap", True), ("a", "ta", True),
                                    ("a", "", False), ("z", "tap", True), ("", "tap", True)):
            self.assertEqual(self.hall.numbers(name, word, is_down), [])
        self.assertEqual(Hall(()).numbers("a", "tap", True), [])

    def test_hearers_that_are_no_more_are_not_told(self):
        self.hall.unhear(0)
        self.assertEqual(self.hall.numbers("a", "tap", True), [4])
        self.hall.unhear(4)
        self.assertEqual(self.hall.numbers("a", "tap", True), [])

    def test_also_of_a_box_that_is_no_more(self):
        self.hall.cut("b")
        self.assertEqual(self.hall.numbers("b", "tap", True), [2])
        self.hall.cut("a")
        self.assertEqual(self.hall.numbers("a", "tap", True), [0, 4])
        self.assertEqual(self.hall.numbers("b", "tap", False), [5])

    def test_a_new_list_each_time(self):
        self.hall.numbers("a", "tap", True).append(99)
        self.hall.numbers("a", "tap", True).clear()
        self.hall.numbers("c", "tap", True).append(99)
        self.assertEqual(self.hall.numbers("a", "tap", True), [0, 4])
        self.assertEqual(self.hall.numbers("c", "tap", True), [])
        self.assertEqual(called(self.hall, "a"), [0, 4, 1, 6])


class BoxesAndCutTest(unittest.TestCase):
    def test_the_scene(self):
        for scene in ((), FAMILY, row_of(12), chain_of(12)):
            self.assertEqual(Hall(scene).boxes(), scene)

    def test_the_box_and_all_in_it_are_no_more(self):
        for name in FAMILY_PAINTED:
            hall = Hall(FAMILY)
            self.assertIsNone(hall.cut(name))
            self.assertEqual(hall.boxes(), cut(FAMILY, name))

    def test_one_behind_the_other(self):
        hall = Hall(FAMILY)
        for name in ("d", "b", "g", "a", "e"):
            self.assertIsNone(hall.cut(name))
        self.assertEqual(hall.boxes(), ())

    def test_no_box(self):
        hall = Hall(FAMILY)
        for name in STRANGERS:
            self.assertRaises(NoBox, hall.cut, name)
        self.assertEqual(hall.boxes(), FAMILY)
        hall.cut("b")
        for name in ("b", "d", "f"):
            self.assertRaises(NoBox, hall.cut, name)
        self.assertEqual(hall.boxes(), cut(FAMILY, "b"))

    def test_nobody_comes_to_their_hearers(self):
        hall = Hall(FAMILY)
        for name in ("a", "b", "d"):
            plain(hall, name)
        hall.cut("b")
        for name in ("b", "d", "f"):
            self.assertRaises(NoBox, hall.call, name, "tap")
        self.assertEqual(called(hall, "a"), [0])


class CallTest(unittest.TestCase):
    def test_down_first_and_then_up_the_same_way(self):
        hall = Hall(FAMILY)
        for name in ("d", "a", "b"):
            for is_down in (False, True):
                plain(hall, name, "tap", is_down)
        self.assertEqual(hall.call("d", "tap"), ([
            (3, "a", "tap", True), (5, "b", "tap", True), (1, "d", "tap", True),
            (0, "d", "tap", False), (4, "b", "tap", False), (2, "a", "tap", False)], False))
        self.assertEqual(called(hall, "b"), [3, 5, 4, 2])
        self.assertEqual(called(hall, "a"), [3, 2])

    def test_down_and_up_of_one_box(self):
        hall = Hall(FAMILY)
        plain(hall, "e", "tap", False)
        plain(hall, "e", "tap", True)
        self.assertEqual(hall.call("e", "tap"), ([(1, "e", "tap", True), (0, "e", "tap", False)], False))

    def test_rising_at_one_box(self):
        hall = Hall(FAMILY)
        for is_down in (False, True, True, False, True):
            plain(hall, "e", "tap", is_down)
        self.assertEqual(called(hall, "e"), [1, 2, 4, 0, 3])

    def test_no_hearers(self):
        for name in FAMILY_PAINTED:
            self.assertEqual(Hall(FAMILY).call(name, "tap"), ([], False))

    def test_none_for_the_word_or_off_the_path(self):
        hall = Hall(FAMILY)
        plain(hall, "a", "key")
        plain(hall, "c")
        plain(hall, "d")
        plain(hall, "e")
        self.assertEqual(hall.call("b", "tap"), ([], False))
        self.assertEqual(hall.call("b", "ke"), ([], False))
        self.assertEqual(hall.call("b", "key"), ([(0, "a", "key", False)], False))

    def test_any_word(self):
        for word in ("", " ", "tap\n", "call", "a b"):
            hall = Hall(FAMILY)
            plain(hall, "a", word)
            self.assertEqual(hall.call("b", word), ([(0, "a", word, False)], False))
            self.assertEqual(hall.call("b", word + "x"), ([], False))

    def test_12_deep(self):
        hall = Hall(chain_of(12))
        for place, name in enumerate(LETTERS[:12]):
            self.assertEqual(plain(hall, name, "tap", True), 2 * place)
            self.assertEqual(plain(hall, name, "tap", False), 2 * place + 1)
        downs = list(range(0, 24, 2))
        ups = list(range(23, 0, -2))
        self.assertEqual(called(hall, "l"), downs + ups)
        self.assertEqual(called(hall, "f"), downs[:6] + ups[6:])

    def test_again_and_again(self):
        hall = Hall(FAMILY)
        plain(hall, "a")
        plain(hall, "b", "tap", True)
        for turn in range(3):
            self.assertEqual(called(hall, "b"), [1, 0])

    def test_the_path_is_that_to_the_box_now(self):
        # A hidden, empty or cut off box is called like any other one.
        hall = Hall(FAMILY)
        for name in ("a", "b", "f", "g"):
            plain(hall, name)
        self.assertEqual(called(hall, "f"), [2, 1, 0])
        self.assertEqual(called(hall, "g"), [3])
        hall.cut("f")
        self.assertEqual(called(hall, "d"), [1, 0])

    def test_no_box(self):
        hall = Hall(FAMILY)
        number = hall.hear("a", "tap", True, (("cut", "a"),), True)
        for name in STRANGERS:
            self.assertRaises(NoBox, hall.call, name, "tap")
        self.assertEqual(hall.numbers("a", "tap", True), [number])
        self.assertEqual(hall.boxes(), FAMILY)
        self.assertRaises(NoBox, Hall(()).call, "a", "tap")

    def test_new_lists_each_time(self):
        hall = Hall(FAMILY)
        plain(hall, "a")
        first = hall.call("a", "tap")
        self.assertIsInstance(first, tuple)
        self.assertIsInstance(first[0], list)
        first[0].append("q")
        second = hall.call("a", "tap")
        self.assertEqual(second, ([(0, "a", "tap", False)], False))
        second[0].clear()
        empty = hall.call("e", "tap")
        empty[0].append("q")
        self.assertEqual(hall.call("e", "tap"), ([], False))
        self.assertEqual(hall.call("a", "tap"), ([(0, "a", "tap", False)], False))


class OnceTest(unittest.TestCase):
    def test_called_once_alone(self):
        hall = Hall(FAMILY)
        for is_once in (True, False, True):
            hall.hear("a", "tap", True, (), is_once)
        self.assertEqual(called(hall, "a"), [0, 1, 2])
        self.assertEqual(hall.numbers("a", "tap", True), [1])
        self.assertEqual(called(hall, "a"), [1])

    def test_it_stays_till_it_is_called(self):
        hall = Hall(FAMILY)
        hall.hear("b", "tap", True, (), True)
        hall.call("a", "tap")
        hall.call("b", "key")
        self.assertEqual(hall.numbers("b", "tap", True), [0])
        self.assertEqual(called(hall, "d"), [0])
        self.assertEqual(called(hall, "d"), [])

    def test_no_more_from_ahead_of_its_deeds_on(self):
        hall = Hall(FAMILY)
        hall.hear("a", "tap", True, (("call", "a", "tap"), ("keep",)), True)
        self.assertEqual(hall.call("a", "tap"), ([(0, "a", "tap", True)], True))
        # Called whenever it comes it would be called by its own deeds too.
        other = Hall(FAMILY)
        other.hear("a", "tap", True, (("call", "a", "tap"), ("keep",)), False)
        self.assertEqual(called(other, "a"), [0, 0, 0, 0])

    def test_going_down_it_does_not_touch_the_one_coming_up(self):
        hall = Hall(FAMILY)
        hall.hear("a", "tap", True, (), True)
        hall.hear("a", "tap", False, (), True)
        self.assertEqual(called(hall, "a"), [0, 1])
        self.assertEqual(called(hall, "a"), [])


class TwoHallsTest(unittest.TestCase):
    def test_they_do_not_touch_each_other(self):
        one, other = Hall(FAMILY), Hall(FAMILY)
        self.assertEqual(plain(one, "a"), 0)
        self.assertEqual(plain(one, "b"), 1)
        self.assertEqual(plain(other, "b"), 0)
        one.cut("b")
        self.assertEqual(other.boxes(), FAMILY)
        self.assertEqual(called(other, "b"), [0])
        self.assertEqual(called(one, "a"), [0])
        one.unhear(0)
        self.assertEqual(other.numbers("b", "tap", False), [0])
        self.assertRaises(NoNumber, other.unhear, 1)
        self.assertEqual(Hall(FAMILY).numbers("a", "tap", False), [])

    def test_what_is_handed_in_stays_as_it_was(self):
        scene = tuple(tuple(one) for one in FAMILY)
        deeds = (("hear", "a", "tap", False), ("cut", "d"), ("keep",))
        hall = Hall(scene)
        hall.hear("a", "tap", True, deeds, False)
        hall.call("d", "tap")
        hall.cut("a")
        self.assertEqual(scene, FAMILY)
        self.assertEqual(deeds, (("hear", "a", "tap", False), ("cut", "d"), ("keep",)))


if __name__ == "__main__":
    unittest.main()
