"""Texts over many scenes: each reads back as what it writes, and as nothing else."""

import re
import unittest

from samples import FAMILY, chain_of, changed, many_scenes, numbers_below, row_of
from touchtree.errors import NoText
from touchtree.scenes import is_scene
from touchtree.texts import read, written

SCENES = many_scenes(120) + [(), FAMILY, chain_of(12), row_of(12)]
FAR = "(-?(?:[1-9]|1[0-9]|20)|0)"
LARGE = "([0-9]|1[0-9]|20)"
LINE = re.compile(f"([a-z]{{1,3}}) (-|[a-z]{{1,3}}) {FAR} {FAR} {LARGE} {LARGE} (-|c?f?h?l?)")
SIGNS = "abcfhlz0129-+_ ~\n"


def read_by_pattern(text):
    """The scene, or None, told line by line from a pattern."""
    if text and not text.endswith("\n"):
        return None
    boxes, names = [], {"-"}
    for line in text.split("\n")[:-1]:
        match = LINE.fullmatch(line)
        if match is None or match[7] == "" or match[1] in names or match[2] not in names:
            return None
        names.add(match[1])
        numbers = tuple(int(match[place]) for place in (3, 4, 5, 6))
        boxes.append((match[1], match[2].replace("-", "")) + numbers + (match[7].replace("-", ""),))
    return tuple(boxes) if len(boxes) <= 12 else None


def spoiled(below_of, text):
    """The text with a sign left out, put in or exchanged, or with lines exchanged, doubled or left out."""
    place = below_of(len(text) + 1)
    sign = SIGNS[below_of(len(SIGNS))]
    lines = text.splitlines(keepends=True)
    one, other = (below_of(len(lines)), below_of(len(lines))) if lines else (0, 0)
    swapped = list(lines)
    if lines:
        swapped[one], swapped[other] = lines[other], lines[one]
    return (
        text[:place] + text[place + 1:],
        text[:place] + sign + text[place:],
        text[:place] + sign + text[place + 1:],
        "".join(swapped),
        "".join(lines[:one] + lines[one + 1:]),
        "".join(lines[:one] + lines[other:]),
    )[below_of(6)]


class TextsTest(unittest.TestCase):
    def test_texts_read_back_as_what_they_write(self):
        for seed, scene in enumerate(SCENES):
            below_of = numbers_below(seed + 3)
            for turn in range(5):
                text = written(scene)
                self.assertEqual(read(text), scene)
                self.assertEqual(read_by_pattern(text), scene)
                scene = changed(below_of, scene)

    def test_and_as_nothing_else(self):
        seen = {True: 0, False: 0}
        for seed, scene in enumerate(SCENES):
            below_of = numbers_below(seed + 41)
            text = written(scene)
            for turn in range(60):
                other = spoiled(below_of, text)
                if below_of(3) == 0:
                    other = spoiled(below_of, other)
                wanted = read_by_pattern(other)
                seen[wanted is not None] += 1
                if wanted is None:
                    with self.assertRaises(NoText, msg=repr(other)):
                        read(other)
                    continue
                told = read(other)
                self.assertEqual(told, wanted)
                self.assertIs(is_scene(told), True)
                self.assertEqual(written(told), other)
        self.assertGreater(min(seen.values()), 500, seen)

    def test_two_scenes_are_written_alike_only_if_they_are_the_same(self):
        texts = {}
        for scene in SCENES:
            text = written(scene)
            self.assertEqual(texts.setdefault(text, scene), scene)
        self.assertGreater(len(texts), 80)


if __name__ == "__main__":
    unittest.main()
