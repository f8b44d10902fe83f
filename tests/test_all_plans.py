"""Plans over many scenes go back and forth step by step."""

import unittest

from samples import FAMILY, LETTERS, box, chain_of, many_scenes, name_in, numbers_below, row_of
from touchtree.errors import NoBox, NoNumber, Taken, TooMany, TouchError
from touchtree.plans import Plan
from touchtree.scenes import below, box_of, cut, has_box, marked, put_at, raised, with_box

SCENES = many_scenes(80) + [(), FAMILY, chain_of(12), row_of(12)]
WORDS = ("put", "take", "lift", "mark", "lay")


class Album:
    """A plan told by all its scenes at once, and by a place among them."""

    def __init__(self, scenes, words, place):
        self.scenes = scenes
        self.words = words
        self.place = place

    def now(self):
        return self.scenes[self.place]

    def sizes(self):
        return (self.place, len(self.words) - self.place)

    def add(self, word, scene):
        self.scenes = self.scenes[:self.place + 1] + (scene,)
        self.words = self.words[:self.place] + (word,)
        self.place += 1

    def twin(self):
        return Album(self.scenes, self.words, self.place)


def things_for(below_of, scene, word):
    """What to hand in for a step: mostly what can be done, now and then what is refused."""
    name = name_in(below_of, scene) if scene and below_of(6) else "zz"
    if word == "put":
        around = ("", name)[below_of(2)]
        return (box(LETTERS[below_of(26)], around, below_of(9), below_of(9)),)
    if word == "mark":
        return (name, ("", "c", "fh", "l")[below_of(4)])
    if word == "lay":
        return (name, below_of(3), below_of(3))
    return (name,)


def told_of(scene, word, things):
    """A tuple of what the step tells, and of the scene behind it; or the refusal."""
    if word == "put":
        name, around = things[0][:2]
        if has_box(scene, name):
            return Taken
        if around and not has_box(scene, around):
            return NoBox
        return TooMany if len(scene) > 11 else (None, with_box(scene, things[0]))
    if not has_box(scene, things[0]):
        return NoBox
    if word == "take":
        return (below(scene, things[0]), cut(scene, things[0]))
    if word == "lift":
        return (None, raised(scene, things[0]))
    if word == "mark":
        return (box_of(scene, things[0])[6], marked(scene, *things))
    return (box_of(scene, things[0])[2:4], put_at(scene, *things))


class PlansTest(unittest.TestCase):
    def check_walk(self, plan, album):
        """Back to the first scene, forth to the last one, and back to where it was."""
        start = album.place
        while album.place:
            album.place -= 1
            self.assertEqual(plan.back(), album.words[album.place])
            self.assertEqual((plan.now(), plan.sizes()), (album.now(), album.sizes()))
        self.assertRaises(NoNumber, plan.back)
        while album.place < len(album.words):
            self.assertEqual(plan.forth(), album.words[album.place])
            album.place += 1
            self.assertEqual((plan.now(), plan.sizes()), (album.now(), album.sizes()))
        self.assertRaises(NoNumber, plan.forth)
        while album.place > start:
            album.place -= 1
            self.assertEqual(plan.back(), album.words[album.place])

    def do_step(self, below_of, plan, album):
        word = WORDS[below_of(5)]
        things = things_for(below_of, album.now(), word)
        wanted = told_of(album.now(), word, things)
        if isinstance(wanted, tuple):
            self.assertEqual(getattr(plan, word)(*things), wanted[0])
            album.add(word, wanted[1])
            return word
        with self.assertRaises(TouchError) as caught:
            getattr(plan, word)(*things)
        self.assertIs(type(caught.exception), wanted)
        return wanted.__name__

    def go_along(self, below_of, plan, album, by):
        words = album.words[album.place:] if by > 0 else album.words[:album.place][::-1]
        call = plan.forth if by > 0 else plan.back
        if not words:
            self.assertRaises(NoNumber, call)
            return "NoNumber"
        self.assertEqual(call(), words[0])
        album.place += by
        return "forth" if by > 0 else "back"

    def test_plans_go_back_and_forth_step_by_step(self):
        seen = {}
        for seed, scene in enumerate(SCENES * 2):
            below_of = numbers_below(seed + 19)
            pairs = [(Plan(scene), Album((scene,), (), 0))]
            for turn in range(50):
                plan, album = pairs[below_of(len(pairs))]
                by = (0, 0, 0, -1, -1, 1)[below_of(6)]
                what = self.go_along(below_of, plan, album, by) if by else self.do_step(below_of, plan, album)
                seen[what] = seen.get(what, 0) + 1
                if below_of(12) == 0 and len(pairs) < 4:
                    pairs.append((plan.twin(), album.twin()))
                # Each of them, as twins are not to touch each other.
                for one, other in pairs:
                    self.assertEqual((one.now(), one.sizes()), (other.now(), other.sizes()))
            for plan, album in pairs:
                self.check_walk(plan, album)
        for what in WORDS + ("Taken", "NoBox", "TooMany", "NoNumber", "back", "forth"):
            self.assertGreater(seen.get(what, 0), 20, (what, seen))


if __name__ == "__main__":
    unittest.main()
