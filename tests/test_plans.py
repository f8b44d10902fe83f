import unittest

from samples import FAMILY, box, chain_of, row_of
from touchtree.errors import NoBox, NoNumber, Taken, TooMany
from touchtree.plans import Plan
from touchtree.scenes import below, cut, marked, put_at, raised, with_box

STRANGERS = ("", "z", "aa", "ab", "A", "abcd")
NEW = box("n", "b", 1, 2, 3, 4, "f")


class PlanCase(unittest.TestCase):
    def setUp(self):
        self.plan = Plan(FAMILY)

    def check(self, scene, done, undone=0):
        self.assertEqual(self.plan.now(), scene)
        self.assertEqual(self.plan.sizes(), (done, undone))

    def check_refused(self, refusal, call, *things):
        """It is refused, and nothing is changed then, also in what can be taken back and done again."""
        ahead = (self.plan.now(), self.plan.sizes())
        with self.assertRaises(refusal, msg=things):
            call(*things)
        self.assertEqual((self.plan.now(), self.plan.sizes()), ahead, things)


class StepsTest(PlanCase):
    def test_at_first(self):
        for scene in ((), FAMILY, row_of(12)):
            self.plan = Plan(scene)
            self.check(scene, 0)

    def test_put(self):
        self.assertIsNone(self.plan.put(NEW))
        self.check(FAMILY + (NEW,), 1)
        self.assertIsNone(self.plan.put(box("nn")))
        self.check(FAMILY + (NEW, box("nn")), 2)

    def test_put_into_the_empty_scene(self):
        self.plan = Plan(())
        self.plan.put(box("a"))
        self.plan.put(box("b", "a"))
        self.check((box("a"), box("b", "a")), 2)

    def test_take(self):
        self.assertEqual(self.plan.take("b"), ["b", "d", "f"])
        self.check(cut(FAMILY, "b"), 1)
        self.assertEqual(self.plan.take("a"), ["a", "c"])
        self.check(cut(FAMILY, "a"), 2)
        self.assertEqual(self.plan.take("e"), ["e"])
        self.assertEqual(self.plan.take("g"), ["g"])
        self.check((), 4)

    def test_take_tells_what_below_told_ahead_of_it(self):
        for one in FAMILY:
            plan = Plan(FAMILY)
            self.assertEqual(plan.take(one[0]), below(FAMILY, one[0]))

    def test_lift(self):
        self.assertIsNone(self.plan.lift("b"))
        self.check(raised(FAMILY, "b"), 1)
        self.assertNotEqual(self.plan.now(), FAMILY)
        self.assertIsNone(self.plan.lift("a"))
        self.check(raised(raised(FAMILY, "b"), "a"), 2)

    def test_mark(self):
        self.assertEqual(self.plan.mark("b", "fh"), "c")
        self.check(marked(FAMILY, "b", "fh"), 1)
        self.assertEqual(self.plan.mark("b", ""), "fh")
        self.check(marked(FAMILY, "b", ""), 2)
        self.assertEqual(self.plan.mark("b", "l"), "")
        self.assertEqual(self.plan.mark("f", ""), "cfhl")
        self.check(marked(marked(FAMILY, "b", "l"), "f", ""), 4)

    def test_lay(self):
        told = self.plan.lay("d", -20, 20)
        self.assertEqual(told, (1, -2))
        self.assertIs(type(told), tuple)
        self.check(put_at(FAMILY, "d", -20, 20), 1)
        self.assertEqual(self.plan.lay("d", 0, 5), (-20, 20))
        self.check(put_at(FAMILY, "d", 0, 5), 2)

    def test_steps_that_change_nothing_count(self):
        self.assertIsNone(self.plan.lift("f"))
        self.assertEqual(self.plan.mark("b", "c"), "c")
        self.assertEqual(self.plan.lay("d", 1, -2), (1, -2))
        self.check(FAMILY, 3)
        for word, done in (("lay", 2), ("mark", 1), ("lift", 0)):
            self.assertEqual(self.plan.back(), word)
            self.check(FAMILY, done, 3 - done)
        for word, done in (("lift", 1), ("mark", 2), ("lay", 3)):
            self.assertEqual(self.plan.forth(), word)
            self.check(FAMILY, done, 3 - done)

    def test_twelve_boxes(self):
        self.plan = Plan(row_of(11))
        self.plan.put(box("z", "k"))
        full = row_of(11) + (box("z", "k"),)
        self.check(full, 1)
        self.check_refused(TooMany, self.plan.put, box("y"))
        self.plan.take("a")
        self.plan.put(box("y"))
        self.check(full[1:] + (box("y"),), 3)
        self.assertEqual([self.plan.back() for turn in range(2)], ["put", "take"])
        self.check(full, 1, 2)
        self.check_refused(TooMany, self.plan.put, box("y"))

    def test_a_chain_of_twelve(self):
        self.plan = Plan(chain_of(12))
        self.assertEqual(self.plan.take("a"), list("abcdefghijkl"))
        self.check((), 1)
        self.assertEqual(self.plan.back(), "take")
        self.check(chain_of(12), 0, 1)


class RefusedTest(PlanCase):
    def test_put_taken(self):
        for around in ("", "a", "z"):
            self.check_refused(Taken, self.plan.put, box("b", around))

    def test_put_no_box_around(self):
        for around in ("z", "aa", "n"):
            self.check_refused(NoBox, self.plan.put, box("n", around))

    def test_put_in_their_order(self):
        self.plan = Plan(row_of(12))
        self.check_refused(Taken, self.plan.put, box("a", "z"))
        self.check_refused(Taken, self.plan.put, box("a"))
        self.check_refused(NoBox, self.plan.put, box("z", "y"))
        self.check_refused(TooMany, self.plan.put, box("z", "a"))
        self.check_refused(TooMany, self.plan.put, box("z"))

    def test_names_that_no_box_has(self):
        for name in STRANGERS:
            self.check_refused(NoBox, self.plan.take, name)
            self.check_refused(NoBox, self.plan.lift, name)
            self.check_refused(NoBox, self.plan.mark, name, "c")
            self.check_refused(NoBox, self.plan.lay, name, 1, 1)

    def test_in_the_empty_scene(self):
        self.plan = Plan(())
        self.check_refused(NoBox, self.plan.take, "a")
        self.check_refused(NoBox, self.plan.put, box("a", "a"))
        self.check((), 0)

    def test_names_that_were_taken_away(self):
        self.plan.take("b")
        for name in ("b", "d", "f"):
            self.check_refused(NoBox, self.plan.take, name)
            self.check_refused(NoBox, self.plan.lift, name)
            self.check_refused(NoBox, self.plan.mark, name, "")
            self.check_refused(NoBox, self.plan.lay, name, 0, 0)
        self.check_refused(NoBox, self.plan.put, box("n", "d"))
        self.plan.put(box("d"))
        self.check(cut(FAMILY, "b") + (box("d"),), 2)

    def test_nothing_to_take_back_or_to_do_again(self):
        self.check_refused(NoNumber, self.plan.back)
        self.check_refused(NoNumber, self.plan.forth)
        self.plan.lift("b")
        self.check_refused(NoNumber, self.plan.forth)
        self.plan.back()
        self.check_refused(NoNumber, self.plan.back)
        self.check(FAMILY, 0, 1)
        self.assertEqual(self.plan.forth(), "lift")
        self.check_refused(NoNumber, self.plan.forth)
        self.check(raised(FAMILY, "b"), 1)

    def test_what_is_refused_is_no_step(self):
        self.plan.lift("b")
        self.plan.mark("b", "")
        self.plan.back()
        for call, things in ((self.plan.put, (box("a"),)), (self.plan.put, (box("n", "z"),)), (self.plan.take, ("z",)),
                             (self.plan.lift, ("z",)), (self.plan.mark, ("z", "")), (self.plan.lay, ("z", 0, 0))):
            with self.assertRaises((NoBox, Taken)):
                call(*things)
            self.check(raised(FAMILY, "b"), 1, 1)
        self.assertEqual(self.plan.forth(), "mark")
        self.check(marked(raised(FAMILY, "b"), "b", ""), 2)


class BackAndForthTest(PlanCase):
    def steps(self):
        """All five, and the scenes that they lead to, the first one first."""
        self.plan.put(NEW)
        scenes = [FAMILY, with_box(FAMILY, NEW)]
        self.plan.mark("n", "cl")
        scenes.append(marked(scenes[-1], "n", "cl"))
        self.plan.lift("b")
        scenes.append(raised(scenes[-1], "b"))
        self.plan.lay("a", 7, -7)
        scenes.append(put_at(scenes[-1], "a", 7, -7))
        self.plan.take("c")
        scenes.append(cut(scenes[-1], "c"))
        return scenes, ["put", "mark", "lift", "lay", "take"]

    def test_back_to_the_first_and_forth_to_the_last(self):
        scenes, words = self.steps()
        self.check(scenes[5], 5)
        for turn in range(2):
            for k in (4, 3, 2, 1, 0):
                self.assertEqual(self.plan.back(), words[k])
                self.check(scenes[k], k, 5 - k)
            self.check_refused(NoNumber, self.plan.back)
            for k in (0, 1, 2, 3, 4):
                self.assertEqual(self.plan.forth(), words[k])
                self.check(scenes[k + 1], k + 1, 4 - k)
            self.check_refused(NoNumber, self.plan.forth)

    def test_back_and_forth_in_the_midst(self):
        scenes, words = self.steps()
        for call, word, k in ((self.plan.back, "take", 4), (self.plan.back, "lay", 3), (self.plan.forth, "lay", 4),
                              (self.plan.back, "lay", 3), (self.plan.back, "lift", 2), (self.plan.forth, "lift", 3),
                              (self.plan.forth, "lay", 4), (self.plan.forth, "take", 5), (self.plan.back, "take", 4)):
            self.assertEqual(call(), word)
            self.check(scenes[k], k, 5 - k)

    def test_another_step_behind_one_that_was_taken_back(self):
        scenes, words = self.steps()
        for turn in range(3):
            self.plan.back()
        self.plan.take("e")
        self.check(cut(scenes[2], "e"), 3, 0)
        self.check_refused(NoNumber, self.plan.forth)
        self.assertEqual([self.plan.back() for turn in range(3)], ["take", "mark", "put"])
        self.check(FAMILY, 0, 3)
        self.assertEqual([self.plan.forth() for turn in range(3)], ["put", "mark", "take"])
        self.check(cut(scenes[2], "e"), 3, 0)

    def test_each_step_behind_one_that_was_taken_back(self):
        for name, things in (("put", (box("m"),)), ("take", ("e",)), ("lift", ("g",)), ("mark", ("e", "")),
                             ("lay", ("e", 0, 0)), ("mark", ("e", "l")), ("lay", ("e", -4, -3)), ("lift", ("f",))):
            self.plan = Plan(FAMILY)
            self.plan.put(NEW)
            self.plan.back()
            self.assertEqual(self.plan.sizes(), (0, 1))
            getattr(self.plan, name)(*things)
            self.assertEqual(self.plan.sizes(), (1, 0), name)
            self.check_refused(NoNumber, self.plan.forth)
            self.assertEqual(self.plan.back(), name)
            self.check(FAMILY, 0, 1)

    def test_asking_changes_nothing(self):
        scenes, words = self.steps()
        self.plan.back()
        for turn in range(3):
            self.plan.now()
            self.plan.sizes()
            self.plan.twin()
            self.check(scenes[4], 4, 1)


class TwinTest(PlanCase):
    def setUp(self):
        PlanCase.setUp(self)
        self.plan.lift("b")
        self.plan.mark("b", "h")
        self.plan.lay("a", 0, 0)
        self.plan.back()
        self.scenes = [FAMILY, raised(FAMILY, "b"), marked(raised(FAMILY, "b"), "b", "h")]
        self.scenes.append(put_at(self.scenes[2], "a", 0, 0))

    def check_other(self, other, scene, done, undone):
        self.assertEqual((other.now(), other.sizes()), (scene, (done, undone)))

    def test_as_this_one(self):
        other = self.plan.twin()
        self.assertIs(type(other), Plan)
        self.assertIsNot(other, self.plan)
        self.check_other(other, self.scenes[2], 2, 1)
        self.assertEqual(other.forth(), "lay")
        self.check_other(other, self.scenes[3], 3, 0)
        for word, k in (("lay", 2), ("mark", 1), ("lift", 0)):
            self.assertEqual(other.back(), word)
            self.check_other(other, self.scenes[k], k, 3 - k)

    def test_of_a_new_plan(self):
        other = Plan(FAMILY).twin()
        self.check_other(other, FAMILY, 0, 0)
        with self.assertRaises(NoNumber):
            other.back()
        with self.assertRaises(NoNumber):
            other.forth()

    def test_the_twin_goes_by_itself(self):
        other = self.plan.twin()
        other.take("a")
        self.check(self.scenes[2], 2, 1)
        other.back()
        other.back()
        self.check(self.scenes[2], 2, 1)
        self.assertEqual(self.plan.forth(), "lay")
        self.check(self.scenes[3], 3)

    def test_the_plan_goes_by_itself(self):
        other = self.plan.twin()
        self.plan.back()
        self.plan.back()
        self.plan.put(NEW)
        self.check_other(other, self.scenes[2], 2, 1)
        self.assertEqual(other.forth(), "lay")
        self.assertEqual([other.back() for turn in range(3)], ["lay", "mark", "lift"])
        self.check_other(other, FAMILY, 0, 3)
        self.check(FAMILY + (NEW,), 1)

    def test_back_of_both(self):
        other = self.plan.twin()
        self.assertEqual((self.plan.back(), other.back()), ("mark", "mark"))
        self.assertEqual((self.plan.back(), other.back()), ("lift", "lift"))
        self.check(FAMILY, 0, 3)
        self.check_other(other, FAMILY, 0, 3)
        self.assertEqual((self.plan.forth(), self.plan.forth()), ("lift", "mark"))
        self.check_other(other, FAMILY, 0, 3)

    def test_twins_of_twins(self):
        other = self.plan.twin()
        third = other.twin()
        fourth = third.twin()
        other.forth()
        third.back()
        self.plan.take("e")
        self.check(cut(self.scenes[2], "e"), 3, 0)
        self.check_other(other, self.scenes[3], 3, 0)
        self.check_other(third, self.scenes[1], 1, 2)
        self.check_other(fourth, self.scenes[2], 2, 1)
        fifth = third.twin()
        self.assertEqual([fifth.forth() for turn in range(2)], ["mark", "lay"])
        self.check_other(third, self.scenes[1], 1, 2)
        self.check_other(fifth, self.scenes[3], 3, 0)

    def test_two_plans_do_not_touch_each_other(self):
        other = Plan(FAMILY)
        other.take("a")
        self.check(self.scenes[2], 2, 1)
        self.plan.back()
        self.check_other(other, cut(FAMILY, "a"), 1, 0)
        self.assertEqual(Plan(FAMILY).sizes(), (0, 0))


class NewListsTest(PlanCase):
    def test_what_take_tells_is_a_new_list(self):
        told = self.plan.take("b")
        told.clear()
        self.plan.back()
        self.check(FAMILY, 0, 1)
        self.assertEqual(self.plan.take("b"), ["b", "d", "f"])
        self.plan.back()
        self.plan.take("b").append("e")
        self.check(cut(FAMILY, "b"), 1)

    def test_what_is_handed_in_stays_as_it_was(self):
        scene = tuple(FAMILY)
        new = tuple(NEW)
        plan = Plan(scene)
        plan.put(new)
        plan.take("a")
        plan.lay("e", 0, 0)
        plan.mark("e", "")
        plan.lift("e")
        self.assertEqual(scene, FAMILY)
        self.assertEqual(new, NEW)


if __name__ == "__main__":
    unittest.main()
