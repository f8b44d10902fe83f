import copy
import unittest

from samples import FAMILY, LETTERS, box, chain_of, many_scenes, row_of
from touchtree.scenes import is_scene

NAME, AROUND, LEFT, TOP, WIDTH, HEIGHT, MARKS = range(7)
PLACES = (LEFT, TOP)
SIZES = (WIDTH, HEIGHT)
RISING_MARKS = (
    "", "c", "f", "h", "l", "cf", "ch", "cl", "fh", "fl", "hl", "cfh", "cfl", "chl", "fhl", "cfhl",
)


def with_part(part, value):
    """A scene of one box, one part of which is this value."""
    parts = list(box())
    parts[part] = value
    return (tuple(parts),)


class SceneCase(unittest.TestCase):
    def check_scene(self, thing):
        with self.subTest(scene=thing):
            self.assertIs(is_scene(thing), True)

    def check_none(self, thing):
        with self.subTest(none=thing):
            self.assertIs(is_scene(thing), False)


class ScenesTest(SceneCase):
    def test_no_box_at_all(self):
        self.check_scene(())

    def test_ordinary_scenes(self):
        self.check_scene(FAMILY)
        for scene in many_scenes(40):
            self.check_scene(scene)

    def test_names_of_one_to_three_letters(self):
        for name in ("a", "z", "m", "ab", "zz", "abc", "zaz", "aaa"):
            self.check_scene(with_part(NAME, name))
        for letter in LETTERS:
            self.check_scene(with_part(NAME, letter * 3))

    def test_names_near_each_other_are_two(self):
        self.check_scene((box("a"), box("aa"), box("aaa"), box("ab", "a"), box("ba", "ab")))

    def test_places_from_minus_20_to_20(self):
        for part in PLACES:
            for number in (-20, -19, -1, 0, 1, 19, 20):
                self.check_scene(with_part(part, number))

    def test_sizes_from_0_to_20(self):
        for part in SIZES:
            for number in (0, 1, 19, 20):
                self.check_scene(with_part(part, number))

    def test_every_rising_text_of_marks(self):
        for marks in RISING_MARKS:
            self.check_scene(with_part(MARKS, marks))

    def test_up_to_12_boxes(self):
        for many in (1, 2, 11, 12):
            self.check_scene(row_of(many))
            self.check_scene(chain_of(many))

    def test_a_box_around_may_stand_anywhere_ahead(self):
        self.check_scene((box("a"), box("b"), box("c", "a"), box("d", "b"), box("e", "a")))


class WrongBoxesTest(SceneCase):
    def test_wrong_names(self):
        for name in ("", "abcd", "aaaaaaa", "A", "aB", "1", "a1", " ", "a ", " a", "a\n", "-", "a-b", "_",
                     "\u00e9", "\u00df", "a\u0131", "\u0430", "`", "{", "\n"):
            self.check_none(with_part(NAME, name))

    def test_names_that_are_no_texts(self):
        for name in (None, True, False, 0, 1, 7, [], ["a"], (), ("a",), ("a", "b"), [["a"]]):
            self.check_none(with_part(NAME, name))

    def test_a_box_around_that_no_box_is(self):
        for around in ("b", "aa", "abcd", " ", "-", "A"):
            self.check_none(with_part(AROUND, around))
            self.check_none((box("z"),) + with_part(AROUND, around))

    def test_a_box_around_itself(self):
        self.check_none((box("a", "a"),))
        self.check_none((box("b"), box("a", "a")))

    def test_a_box_around_that_stands_behind(self):
        self.check_none((box("a", "b"), box("b")))
        self.check_none((box("a", "b"), box("b", "a")))
        self.check_none((box("c"), box("a", "b"), box("b", "c")))

    def test_arounds_that_are_no_texts(self):
        for around in (None, True, False, 0, 1, [], [""], (), ("",), ["a"], ("z",)):
            self.check_none(with_part(AROUND, around))
            self.check_none((box("z"),) + with_part(AROUND, around))

    def test_places_out_of_bounds(self):
        for part in PLACES:
            for number in (-21, 21, -22, 22, 100, -100, 10 ** 30, -(10 ** 30)):
                self.check_none(with_part(part, number))

    def test_sizes_out_of_bounds(self):
        for part in SIZES:
            for number in (-1, 21, -20, 22, 100, 10 ** 30, -(10 ** 30)):
                self.check_none(with_part(part, number))

    def test_truths_are_no_whole_numbers(self):
        for part in PLACES + SIZES:
            for number, truth in ((0, False), (1, True)):
                # What was told of the number, which is equal, must not be told of the truth.
                self.check_scene(with_part(part, number))
                self.check_none(with_part(part, truth))
                self.check_scene(with_part(part, number))

    def test_numbers_that_are_none(self):
        for part in PLACES + SIZES:
            for thing in (None, "", "0", "1", [], [0], (), (0,), (1, 2)):
                self.check_none(with_part(part, thing))

    def test_wrong_marks(self):
        for marks in ("a", "x", "cx", "xc", "fc", "hc", "lc", "hf", "lf", "lh", "cc", "ff", "hh", "ll", "ccf",
                      "cffh", "cfhll", "chf", "lhfc", "C", "H", " ", "c ", " c", "c f", "-", "c\n", "cfhlm"):
            self.check_none(with_part(MARKS, marks))

    def test_marks_that_are_no_texts(self):
        for marks in (None, True, False, 0, 1, [], ["c"], (), ("c",), ("c", "f"), ["c", "f"]):
            self.check_none(with_part(MARKS, marks))

    def test_boxes_of_more_or_fewer_parts(self):
        self.check_none(((),))
        for many in range(7):
            self.check_none((box()[:many],))
        self.check_none((box() + ("",),))
        self.check_none((box() + (0,),))
        self.check_none((box() + box(),))

    def test_boxes_that_are_no_tuples(self):
        for thing in (None, True, False, 0, 1, "", "a", "aaaaaaa", list(box()), [], [box()], (box(),)):
            self.check_none((thing,))
            self.check_none((box("z"), thing))

    def test_one_wrong_box_among_right_ones(self):
        for place in range(3):
            for wrong in (box("q", marks="x"), box("q", left=21), box("Q"), box("q", "u"), None, list(box("q"))):
                scene = list(row_of(2))
                scene.insert(place, wrong)
                self.check_none(tuple(scene))


class WrongScenesTest(SceneCase):
    def test_two_boxes_of_one_name(self):
        self.check_none((box("a"), box("a")))
        self.check_none((box("a"), box("b"), box("a", "b")))
        self.check_none((box("ab"), box("b", left=3), box("ab", left=5, marks="c")))

    def test_more_than_12_boxes(self):
        self.check_none(row_of(13))
        self.check_none(row_of(26))
        self.check_none(chain_of(13))

    def test_things_of_other_kinds(self):
        for thing in (None, True, False, 0, 1, -1, 12, "", "a", "()", [], [box()], list(FAMILY), [()], [[]]):
            self.check_none(thing)

    def test_a_box_alone_is_no_scene(self):
        self.check_none(box())
        self.check_none(((box(),),))

    def test_things_some_ten_deep(self):
        for start in ((), [], None, True, 0, "", box(), [box()]):
            deep_tuple, deep_list, deep_mixed = start, start, start
            for step in range(12):
                deep_tuple = (deep_tuple,)
                deep_list = [deep_list]
                deep_mixed = (deep_mixed, [deep_mixed])
                self.check_none(deep_list)
                self.check_none(deep_mixed)
                if step or start != box():
                    self.check_none(deep_tuple)
            for part in range(7):
                self.check_none(with_part(part, deep_tuple))
                self.check_none(with_part(part, deep_list))

    def test_what_is_handed_in_stays_as_it_was(self):
        for thing in ([], [box()], [list(box())], (list(box()),), (box("a"), [box("b"), ["c"]]), (["a"],) * 7):
            ahead = copy.deepcopy(thing)
            is_scene(thing)
            self.assertEqual(thing, ahead)

    def test_told_again_it_is_the_same(self):
        for thing, told in ((FAMILY, True), ((box(), box()), False), ((), True), ([], False)):
            for turn in range(3):
                self.assertIs(is_scene(thing), told)


if __name__ == "__main__":
    unittest.main()
