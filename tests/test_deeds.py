"""What hearers do when they are called."""

import unittest

from samples import FAMILY
from touchtree.halls import Hall
from touchtree.scenes import cut

# The turns of a call to d: a, b, d going down, then d, b, a coming up.
TURNS = (("a", True), ("b", True), ("d", True), ("d", False), ("b", False), ("a", False))
STOPS = (("stop",), ("stopnow",))


def hall_of(rows, scene=FAMILY):
    """A hall with hearers (box, is_down, deeds) for tap."""
    hall = Hall(scene)
    for name, is_down, deeds in rows:
        hall.hear(name, "tap", is_down, deeds, False)
    return hall


def turns_with(place, deeds):
    """Two hearers for each turn of a call to d; the first one of one turn has deeds."""
    rows = []
    for number, (name, is_down) in enumerate(TURNS):
        rows.append((name, is_down, deeds if number == place else ()))
        rows.append((name, is_down, ()))
    return hall_of(rows)


def called(hall, name="d", word="tap"):
    return [row[0] for row in hall.call(name, word)[0]]


class StopTest(unittest.TestCase):
    def test_stop_lets_the_turn_come_to_its_end(self):
        for place in range(6):
            hall = turns_with(place, (("stop",),))
            self.assertEqual(called(hall), list(range(2 * place + 2)))

    def test_stopnow_does_not(self):
        for place in range(6):
            hall = turns_with(place, (("stopnow",),))
            self.assertEqual(called(hall), list(range(2 * place + 1)))

    def test_both_in_either_order(self):
        for deeds in (STOPS, STOPS[::-1]):
            self.assertEqual(called(turns_with(1, deeds)), [0, 1, 2])

    def test_stopnow_behind_a_stop_of_the_same_turn(self):
        hall = hall_of([("a", True, (("stop",),)), ("a", True, (("stopnow",),)), ("a", True, ()), ("a", False, ())])
        self.assertEqual(called(hall), [0, 1])

    def test_a_stop_down_at_the_box_itself_stops_its_way_up(self):
        hall = hall_of([("d", True, (("stop",),)), ("d", False, ())])
        self.assertEqual(called(hall), [0])

    def test_the_next_call_is_not_stopped(self):
        for stop in STOPS:
            hall = hall_of([("b", True, (stop,)), ("a", False, ())])
            self.assertEqual(called(hall), [0])
            self.assertEqual(called(hall), [0])
            self.assertEqual(called(hall, "a"), [1])

    def test_deeds_behind_it_are_done(self):
        for stop in STOPS:
            hall = hall_of([("a", True, (stop, ("keep",), ("cut", "d"), ("call", "e", "key")))])
            hall.hear("e", "key", False, (), False)
            self.assertEqual(hall.call("b", "tap"), ([(0, "a", "tap", True), (1, "e", "key", False)], True))
            self.assertEqual(hall.boxes(), cut(FAMILY, "d"))

    def test_it_is_not_kept_by_that(self):
        for stop in STOPS:
            self.assertIs(hall_of([("a", True, (stop,))]).call("a", "tap")[1], False)


class KeepTest(unittest.TestCase):
    def test_kept(self):
        for place in range(6):
            hall = turns_with(place, (("keep",),))
            self.assertEqual(called(hall), list(range(12)))
            self.assertIs(hall.call("d", "tap")[1], True)

    def test_not_kept(self):
        self.assertIs(turns_with(0, ()).call("d", "tap")[1], False)

    def test_one_of_another_word_or_box_does_not_keep_it(self):
        hall = Hall(FAMILY)
        hall.hear("a", "key", True, (("keep",),), False)
        hall.hear("c", "tap", True, (("keep",),), False)
        self.assertIs(hall.call("d", "tap")[1], False)

    def test_one_that_is_not_called_does_not_keep_it(self):
        hall = hall_of([("a", True, (("stop",),)), ("a", False, (("keep",),))])
        self.assertEqual(hall.call("d", "tap"), ([(0, "a", "tap", True)], False))

    def test_the_next_call_is_not_kept(self):
        hall = Hall(FAMILY)
        hall.hear("a", "tap", True, (("keep",), ("keep",)), True)
        self.assertIs(hall.call("d", "tap")[1], True)
        self.assertIs(hall.call("d", "tap")[1], False)


class UnhearDeedTest(unittest.TestCase):
    def test_ahead_of_its_turn(self):
        hall = hall_of([("a", True, (("unhear", 1), ("unhear", 3))), ("a", True, ()), ("a", True, ()),
                        ("d", False, ()), ("d", False, ())])
        self.assertEqual(called(hall), [0, 2, 4])
        self.assertEqual(hall.numbers("a", "tap", True), [0, 2])
        self.assertEqual(hall.numbers("d", "tap", False), [4])

    def test_behind_its_turn(self):
        hall = hall_of([("a", True, ()), ("a", False, (("unhear", 0),))])
        self.assertEqual(called(hall), [0, 1])
        self.assertEqual(called(hall), [1])

    def test_itself(self):
        hall = hall_of([("a", True, (("unhear", 0), ("keep",), ("hear", "a", "tap", False)))])
        self.assertEqual(hall.call("a", "tap"), ([(0, "a", "tap", True), (1, "a", "tap", False)], True))
        self.assertEqual(called(hall, "a"), [1])

    def test_none_or_no_more(self):
        hall = hall_of([("a", True, tuple(("unhear", number) for number in (2, 3, -1, -2, 99, 1, 1)))])
        hall.hear("a", "tap", True, (), False)
        self.assertEqual(called(hall), [0])
        self.assertEqual(called(hall), [0])
        self.assertEqual(hall.numbers("a", "tap", True), [0])

    def test_one_of_a_box_that_is_no_more(self):
        hall = hall_of([("d", True, ()), ("a", True, (("unhear", 0),))])
        hall.cut("d")
        self.assertEqual(called(hall, "b"), [1])
        self.assertEqual(hall.numbers("d", "tap", True), [])


class HearDeedTest(unittest.TestCase):
    def test_of_a_box_whose_turn_comes_yet(self):
        hall = hall_of([("a", True, (("hear", "b", "tap", True), ("hear", "a", "tap", False)))])
        self.assertEqual(hall.call("b", "tap"), (
            [(0, "a", "tap", True), (1, "b", "tap", True), (2, "a", "tap", False)], False))

    def test_of_the_turn_that_is_under_way(self):
        hall = hall_of([("a", True, (("hear", "a", "tap", True),))])
        self.assertEqual(called(hall, "a"), [0])
        self.assertEqual(called(hall, "a"), [0, 1])
        self.assertEqual(called(hall, "a"), [0, 1, 2])

    def test_behind_its_turn_or_for_another_word(self):
        hall = hall_of([("d", False, (("hear", "a", "tap", True), ("hear", "d", "tap", True),
                                      ("hear", "a", "key", False)))])
        self.assertEqual(called(hall), [0])
        self.assertEqual(hall.numbers("a", "tap", True), [1])
        self.assertEqual(hall.numbers("d", "tap", True), [2])
        self.assertEqual(hall.numbers("a", "key", False), [3])

    def test_without_deeds_and_not_once_alone(self):
        hall = hall_of([("b", True, (("keep",), ("hear", "a", "key", True)))])
        hall.call("b", "tap")
        for turn in range(3):
            self.assertEqual(hall.call("b", "key"), ([(1, "a", "key", True)], False))

    def test_no_box(self):
        hall = hall_of([("a", True, (("hear", "z", "tap", True), ("hear", "", "tap", True), ("cut", "d"),
                                     ("hear", "d", "tap", True), ("hear", "b", "tap", True)))])
        self.assertEqual(called(hall), [0, 1])
        for name in ("z", "", "d"):
            self.assertEqual(hall.numbers(name, "tap", True), [])
        self.assertEqual(hall.hear("a", "tap", True, (), False), 2)


class CutDeedTest(unittest.TestCase):
    def test_ahead_of_its_turn(self):
        hall = turns_with(0, (("cut", "b"),))
        self.assertEqual(called(hall), [0, 1, 10, 11])
        self.assertEqual(hall.boxes(), cut(FAMILY, "b"))

    def test_the_box_itself_alone(self):
        self.assertEqual(called(turns_with(1, (("cut", "d"),))), [0, 1, 2, 3, 8, 9, 10, 11])

    def test_behind_its_way_down_ahead_of_its_way_up(self):
        self.assertEqual(called(turns_with(2, (("cut", "b"),))), [0, 1, 2, 3, 4, 5, 10, 11])
        self.assertEqual(called(turns_with(3, (("cut", "b"),))), [0, 1, 2, 3, 4, 5, 6, 7, 10, 11])

    def test_behind_all_its_turns(self):
        for place, name in ((4, "d"), (5, "b"), (5, "a")):
            hall = turns_with(place, (("cut", name),))
            self.assertEqual(called(hall), list(range(12)))
            self.assertEqual(hall.boxes(), cut(FAMILY, name))

    def test_in_the_midst_of_its_turn(self):
        # The turn is its own already, and its hearers stay; its other turns are passed by.
        self.assertEqual(called(turns_with(1, (("cut", "b"),))), [0, 1, 2, 3, 10, 11])
        self.assertEqual(called(turns_with(0, (("cut", "a"),))), [0, 1])

    def test_a_box_off_the_path(self):
        hall = turns_with(0, (("cut", "c"), ("cut", "e"), ("cut", "f")))
        self.assertEqual(called(hall), list(range(12)))
        self.assertEqual(hall.boxes(), cut(cut(cut(FAMILY, "c"), "e"), "f"))

    def test_no_box(self):
        hall = turns_with(0, (("cut", "z"), ("cut", ""), ("cut", "b"), ("cut", "b"), ("cut", "d"), ("keep",)))
        self.assertEqual(called(hall), [0, 1, 10, 11])
        self.assertEqual(hall.boxes(), cut(FAMILY, "b"))
        self.assertIs(hall.call("a", "tap")[1], True)

    def test_their_hearers_stay(self):
        hall = turns_with(0, (("cut", "b"),))
        hall.call("d", "tap")
        self.assertEqual(hall.numbers("d", "tap", True), [4, 5])


class CallDeedTest(unittest.TestCase):
    def test_whom_it_calls_is_told_there(self):
        hall = hall_of([("a", True, (("call", "c", "key"),)), ("a", True, ()), ("b", True, ())])
        for name, is_down in (("a", True), ("a", False), ("c", True), ("c", False), ("b", True)):
            hall.hear(name, "key", is_down, (), False)
        self.assertEqual(hall.call("b", "tap"), ([
            (0, "a", "tap", True),
            (3, "a", "key", True), (5, "c", "key", True), (6, "c", "key", False), (4, "a", "key", False),
            (1, "a", "tap", True), (2, "b", "tap", True)], False))

    def test_several_and_deeds_behind_it(self):
        hall = hall_of([("a", True, (("call", "e", "key"), ("hear", "e", "key", False), ("call", "e", "key"),
                                     ("keep",)))])
        hall.hear("e", "key", True, (), False)
        self.assertEqual(hall.call("a", "tap"), ([
            (0, "a", "tap", True), (1, "e", "key", True), (1, "e", "key", True), (2, "e", "key", False)], True))

    def test_up_to_the_third_within(self):
        for words, told in ((1, 1), (2, 2), (3, 3), (4, 4), (5, 4), (6, 4)):
            hall = Hall(FAMILY)
            for number in range(words):
                deeds = (("call", "e", str(number + 1)),) if number + 1 < words else ()
                hall.hear("e", str(number), True, deeds, False)
            self.assertEqual(hall.call("e", "0"), (
                [(number, "e", str(number), True) for number in range(told)], False))

    def test_to_itself(self):
        hall = hall_of([("a", True, (("call", "a", "tap"),)), ("a", True, ())])
        self.assertEqual(called(hall, "a"), [0, 0, 0, 0, 1, 1, 1, 1])

    def test_the_deed_that_is_one_too_deep_does_nothing_others_go_on(self):
        hall = Hall(FAMILY)
        for word, after in (("0", "1"), ("1", "2"), ("2", "3")):
            hall.hear("e", word, True, (("call", "e", after),), False)
        hall.hear("e", "3", True, (("call", "e", "4"), ("cut", "c"), ("hear", "e", "2", False)), False)
        hall.hear("e", "4", True, (("cut", "a"),), False)
        self.assertEqual(called(hall, "e", "0"), [0, 1, 2, 3, 5])
        self.assertEqual(hall.boxes(), cut(FAMILY, "c"))

    def test_those_that_have_ended_do_not_count(self):
        deeds = (("call", "e", "1"),) * 3
        hall = Hall(FAMILY)
        hall.hear("e", "0", True, deeds + deeds, False)
        hall.hear("e", "1", True, (("call", "e", "2"),), False)
        hall.hear("e", "2", True, (("call", "e", "3"),), False)
        hall.hear("e", "3", True, (), False)
        for turn in range(2):
            self.assertEqual(called(hall, "e", "0"), [0] + [1, 2, 3] * 6)

    def test_no_box(self):
        hall = hall_of([("a", True, (("call", "z", "tap"), ("call", "", "tap"), ("cut", "d"), ("call", "d", "tap"),
                                     ("keep",)))])
        self.assertEqual(hall.call("d", "tap"), ([(0, "a", "tap", True)], True))

    def test_a_stop_within_does_not_stop_the_one_around(self):
        for stop in STOPS:
            hall = hall_of([("a", True, (("call", "e", "key"),)), ("a", True, ()), ("a", False, ())])
            hall.hear("e", "key", True, (stop,), False)
            hall.hear("e", "key", False, (), False)
            self.assertEqual(called(hall, "a"), [0, 3, 1, 2])

    def test_a_stop_around_does_not_stop_the_one_within(self):
        for stop in STOPS:
            hall = hall_of([("a", True, (stop, ("call", "e", "key"))), ("a", False, ())])
            hall.hear("e", "key", True, (), False)
            hall.hear("e", "key", True, (), False)
            hall.hear("e", "key", False, (), False)
            self.assertEqual(called(hall, "a"), [0, 2, 3, 4])

    def test_what_is_kept_within_is_not_kept_around(self):
        hall = hall_of([("a", True, (("call", "e", "key"),))])
        hall.hear("e", "key", True, (("keep",),), False)
        self.assertEqual(hall.call("a", "tap"), ([(0, "a", "tap", True), (1, "e", "key", True)], False))
        self.assertIs(hall.call("e", "key")[1], True)

    def test_what_is_kept_around_stays_so(self):
        hall = hall_of([("a", True, (("keep",), ("call", "e", "key")))])
        hall.hear("e", "key", True, (), False)
        self.assertIs(hall.call("a", "tap")[1], True)

    def test_a_box_taken_away_within_is_passed_by_around(self):
        hall = hall_of([("a", True, (("call", "e", "key"),)), ("b", True, ()), ("d", False, ()), ("a", False, ())])
        hall.hear("e", "key", True, (("cut", "b"),), False)
        self.assertEqual(called(hall), [0, 4, 3])

    def test_hearers_that_go_or_come_within(self):
        hall = hall_of([("a", True, (("call", "e", "key"),)), ("a", True, ()), ("b", True, ())])
        hall.hear("e", "key", True, (("unhear", 1), ("unhear", 2), ("hear", "b", "tap", False)), False)
        self.assertEqual(called(hall, "b"), [0, 3, 4])

    def test_once_alone_within_the_turn_of_the_one_around(self):
        hall = hall_of([("a", True, (("call", "a", "tap"),))])
        hall.hear("a", "tap", True, (), True)
        # Called by the deepest call it is no more for the turns of those around.
        self.assertEqual(called(hall, "a"), [0, 0, 0, 0, 1])

    def test_the_path_of_the_one_within_is_that_of_then(self):
        hall = hall_of([("a", True, (("call", "d", "key"), ("cut", "d"), ("call", "b", "key")))])
        for name in ("a", "b", "d"):
            hall.hear(name, "key", False, (), False)
        self.assertEqual(called(hall, "a"), [0, 3, 2, 1, 2, 1])


if __name__ == "__main__":
    unittest.main()
