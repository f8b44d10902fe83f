"""The whole interface: names, how many arguments each takes, what kinds are told, and that told lists are new ones."""

import importlib
import inspect
import pathlib
import unittest

import touchtree
from samples import FAMILY, box
from touchtree.focus import Focus
from touchtree.halls import Hall
from touchtree.hands import Hands, sent
from touchtree.hits import all_hits, hit, hit_path, is_covered, is_shown, is_touched, points_of
from touchtree.pictures import picture, shares, unlike_points
from touchtree.plans import Plan
from touchtree.rivals import decided, losers, rivals_on
from touchtree.scenes import (
    area_of, below, box_of, children, cut, is_scene, marked, painted, path_of, put_at, raised, with_box,
)
from touchtree.texts import read, written

# From modules to functions, each with how many arguments it takes.
FUNCTIONS = {
    "scenes": {"is_scene": 1, "box_of": 2, "path_of": 2, "children": 2, "painted": 1, "below": 2, "area_of": 2,
               "with_box": 2, "cut": 2, "raised": 2, "marked": 3, "put_at": 4},
    "hits": {"is_shown": 2, "is_touched": 4, "is_covered": 2, "all_hits": 3, "hit": 3, "hit_path": 3, "points_of": 2},
    "hands": {"sent": 2},
    "rivals": {"decided": 2, "losers": 2, "rivals_on": 2},
    "texts": {"written": 1, "read": 1},
    "pictures": {"picture": 5, "unlike_points": 6, "shares": 5},
}
# From modules and classes to methods; each class is made with one argument, a scene.
METHODS = {
    ("halls", "Hall"): {"boxes": 0, "hear": 5, "unhear": 1, "numbers": 3, "cut": 1, "call": 2},
    ("hands", "Hands"): {"move": 4, "down": 4, "up": 4, "hold": 2, "free": 1, "holder": 1, "over": 1, "change": 1},
    ("focus", "Focus"): {"order": 0, "now": 0, "to": 1, "go": 1, "drop": 0, "keep_in": 1, "change": 1, "path": 0},
    ("plans", "Plan"): {"put": 1, "take": 1, "lift": 1, "mark": 2, "lay": 3, "now": 0, "back": 0, "forth": 0,
                        "sizes": 0, "twin": 0},
}
ERRORS = ("TouchError", "NoBox", "Taken", "TooMany", "NoNumber", "NoText")
RIVALS = [("a", "tap"), ("b", "long"), ("a", "drag")]
POINTS = [(0, 0, 0), (31, 1, 1), (41, 1, 1)]
KEYED = marked(marked(FAMILY, "b", "f"), "d", "f")


def hall_of_two():
    hall = Hall(FAMILY)
    hall.hear("a", "click", True, (), False)
    hall.hear("b", "click", False, (("keep",),), False)
    return hall


def hands_over_d():
    hands = Hands(FAMILY)
    hands.down(1, 0, 4, 3)
    return hands


def focus_on_d():
    focus = Focus(KEYED)
    focus.to("d")
    return focus


class NamesTest(unittest.TestCase):
    def check_takes(self, thing, many):
        """It takes so many arguments by their places, and neither one more nor one less."""
        signature = inspect.signature(thing)
        signature.bind(*range(many))
        self.assertRaises(TypeError, signature.bind, *range(many + 1))
        if many:
            self.assertRaises(TypeError, signature.bind, *range(many - 1))

    def test_functions(self):
        for module, functions in FUNCTIONS.items():
            for name, many in functions.items():
                with self.subTest(module=module, name=name):
                    thing = getattr(importlib.import_module(f"touchtree.{module}"), name)
                    self.assertEqual(thing.__module__, f"touchtree.{module}")
                    self.check_takes(thing, many)

    def test_classes(self):
        for (module, name), methods in METHODS.items():
            with self.subTest(module=module, name=name):
                thing = getattr(importlib.import_module(f"touchtree.{module}"), name)
                self.assertTrue(inspect.isclass(thing))
                self.check_takes(thing, 1)
                made = thing(FAMILY)
                for method, many in methods.items():
                    self.check_takes(getattr(made, method), many)

    def test_errors(self):
        module = importlib.import_module("touchtree.errors")
        for name in ERRORS:
            self.assertTrue(issubclass(getattr(module, name), ValueError), name)

    def test_the_package_has_the_files_of_the_interface(self):
        files = {path.stem for path in pathlib.Path(touchtree.__file__).parent.glob("*.py")}
        wanted = set(FUNCTIONS) | {module for module, name in METHODS} | {"errors", "__init__"}
        self.assertEqual(wanted - files, set())


class KindsTest(unittest.TestCase):
    def check(self, kind, *things):
        for thing in things:
            self.assertIs(type(thing), kind, thing)

    def test_truths(self):
        self.check(bool, is_scene(FAMILY), is_scene(()), is_scene([]), is_scene(None), is_scene(3), is_scene("a"))
        self.check(bool, is_shown(FAMILY, "a"), is_shown(FAMILY, "g"))
        self.check(bool, is_touched(FAMILY, "a", 4, 3), is_touched(FAMILY, "g", 4, 3), is_touched(FAMILY, "a", 99, 3))
        self.check(bool, is_covered(FAMILY, "a"), is_covered(FAMILY, "g"))
        self.check(bool, hall_of_two().call("b", "click")[1], hall_of_two().call("a", "click")[1])

    def test_lists(self):
        self.check(list, path_of(FAMILY, "a"), children(FAMILY, "a"), children(FAMILY, "z"), painted(()))
        self.check(list, below(FAMILY, "a"), all_hits(FAMILY, 4, 3), hit_path(FAMILY, 4, 3), hit_path(FAMILY, 99, 3))
        self.check(list, hall_of_two().numbers("a", "click", True), hall_of_two().call("a", "click")[0])
        self.check(list, *[getattr(hands_over_d(), word)(1, 0, 4, 3) for word in ("move", "down", "up")])
        self.check(list, hands_over_d().over(1), hands_over_d().change(()), *sent(hall_of_two(), [("click", "a")]))
        self.check(list, losers(RIVALS, POINTS), rivals_on(["a"], {}), Focus(()).order(), Focus(()).path())
        self.check(list, focus_on_d().order(), focus_on_d().path(), Plan(FAMILY).take("a"))
        self.check(list, unlike_points(FAMILY, (), 0, 0, 5, 5), shares(FAMILY, 0, 0, 5, 5), shares((), 0, 0, 0, 0))

    def test_tuples(self):
        self.check(tuple, box_of(FAMILY, "a"), area_of(FAMILY, "a"), with_box((), box()), cut(FAMILY, "a"))
        self.check(tuple, raised(FAMILY, "a"), marked(FAMILY, "a", ""), put_at(FAMILY, "a", 0, 0), read(""))
        self.check(tuple, hall_of_two().boxes(), hall_of_two().call("a", "click"), sent(hall_of_two(), []))
        self.check(tuple, decided(RIVALS, POINTS), losers(RIVALS, POINTS)[0], *rivals_on(["a"], {"a": ["tap"]}))
        self.check(tuple, Plan(FAMILY).lay("a", 0, 0), Plan(()).now(), Plan(()).sizes())
        self.check(tuple, *unlike_points(FAMILY, (), 0, 0, 5, 5), *shares(FAMILY, 0, 0, 5, 5))

    def test_texts_and_numbers(self):
        self.check(str, hit(FAMILY, 4, 3), hands_over_d().holder(1), focus_on_d().now(), focus_on_d().go(1))
        self.check(str, written(()), written(FAMILY), Plan(FAMILY).mark("a", ""), picture(FAMILY, 0, 0, 0, 0))
        self.check(int, points_of(FAMILY, "a"), hall_of_two().hear("a", "x", True, (), True), *Plan(()).sizes())

    def test_none(self):
        hall, hands, focus, plan = hall_of_two(), hands_over_d(), focus_on_d(), Plan(FAMILY)
        told = [hit((), 0, 0), hall.unhear(0), hall.cut("b"), hands.hold(1, "a"), hands.free(1), hands.holder(1)]
        told += [decided([], POINTS), focus.to("b"), focus.keep_in("b"), focus.keep_in(None), focus.change(FAMILY)]
        told += [focus.drop(), focus.now(), Focus(()).go(1), plan.put(box("n")), plan.lift("a")]
        self.assertEqual(told, [None] * 16)


class NewListsTest(unittest.TestCase):
    def check_new(self, ask):
        """What is told anew is as it was, whatever was done to what was told."""
        wanted = repr(ask())
        told = ask()
        for one in told if isinstance(told, tuple) else (told,):
            if isinstance(one, list):
                one.append("q")
                one.reverse()
        self.assertEqual(repr(ask()), wanted)

    def test_of_scenes_and_hits(self):
        for name in ("a", "b", "f"):
            for ask in (path_of, children, below):
                self.check_new(lambda: ask(FAMILY, name))
        self.check_new(lambda: painted(FAMILY))
        self.check_new(lambda: painted(()))
        for x, y in ((4, 3), (99, 99)):
            self.check_new(lambda: all_hits(FAMILY, x, y))
            self.check_new(lambda: hit_path(FAMILY, x, y))

    def test_of_rivals_and_pictures(self):
        self.check_new(lambda: losers(RIVALS, POINTS))
        self.check_new(lambda: rivals_on(["a", "b"], {"a": ["tap"], "b": ["long", "tap"]}))
        self.check_new(lambda: unlike_points(FAMILY, (), 0, 0, 5, 5))
        self.check_new(lambda: shares(FAMILY, 0, 0, 5, 5))

    def test_of_objects(self):
        hall, hands, focus = hall_of_two(), hands_over_d(), focus_on_d()
        self.check_new(lambda: hall.numbers("a", "click", True))
        self.check_new(lambda: hall.call("b", "click"))
        self.check_new(lambda: sent(hall, [("click", "b"), ("click", "a")]))
        self.check_new(lambda: hands.over(1))
        self.check_new(lambda: hands.move(1, 0, 4, 3))
        self.check_new(lambda: hands.down(1, 0, 4, 3))
        self.check_new(lambda: hands.change(FAMILY))
        self.check_new(focus.order)
        self.check_new(focus.path)
        self.check_new(lambda: Plan(FAMILY).take("b"))


class HandedInTest(unittest.TestCase):
    def test_lists_and_dicts_stay_as_they_were(self):
        hall = hall_of_two()
        rows, rivals, points = [("click", "b"), ("click", "z"), ("down", "a")], list(RIVALS), list(POINTS)
        path, kinds = ["a", "b"], {"a": ["tap"], "b": ["long", "tap"]}
        ahead = repr((rows, rivals, points, path, kinds))
        sent(hall, rows)
        decided(rivals, points)
        losers(rivals, points)
        rivals_on(path, kinds).clear()
        self.assertEqual(repr((rows, rivals, points, path, kinds)), ahead)

    def test_lists_that_are_changed_later_do_not_matter(self):
        thing = [("a", "", 0, 0, 1, 1, "")]
        self.assertIs(is_scene(thing), False)
        self.assertEqual(thing, [("a", "", 0, 0, 1, 1, "")])
        hall, rows = hall_of_two(), [("click", "b")]
        told = sent(hall, rows)
        rows.clear()
        self.assertEqual(told, ([(0, "a", "click", True), (1, "b", "click", False)], [0]))


if __name__ == "__main__":
    unittest.main()
