import unittest

from samples import FAMILY, box, chain_of, row_of
from touchtree.errors import NoText
from touchtree.scenes import put_at
from touchtree.texts import read, written

FAMILY_WRITTEN = """\
a - 1 2 10 9 -
b a 2 1 5 4 c
c a 3 3 6 5 f
e - -4 -3 8 7 l
d b 1 -2 3 4 -
g - 15 0 2 2 h
f b 3 3 4 4 cfhl
"""
LINE = "a - 0 0 4 4 -\n"
INNER = "b a 0 0 4 4 -\n"


class WrittenTest(unittest.TestCase):
    def check(self, scene, text):
        self.assertEqual(written(scene), text)
        self.assertEqual(read(text), scene)

    def test_a_line_for_each_box(self):
        self.check(FAMILY, FAMILY_WRITTEN)
        self.check((box("a"),), LINE)
        self.check((box("a"), box("b", "a")), LINE + INNER)

    def test_the_empty_scene(self):
        self.check((), "")

    def test_the_empty_text_at_the_top_and_for_no_marks(self):
        self.check((box("a", marks="c"),), "a - 0 0 4 4 c\n")
        self.check((box("a", marks="c"), box("b", "a")), "a - 0 0 4 4 c\nb a 0 0 4 4 -\n")

    def test_numbers(self):
        self.check((box("a", "", -20, 20, 0, 20),), "a - -20 20 0 20 -\n")
        self.check((box("a", "", 20, -20, 20, 0),), "a - 20 -20 20 0 -\n")
        self.check((box("a", "", -1, -9, 1, 10),), "a - -1 -9 1 10 -\n")

    def test_names_and_marks(self):
        self.check((box("abc", marks="cfhl"), box("zz", "abc", marks="fl")),
                   "abc - 0 0 4 4 cfhl\nzz abc 0 0 4 4 fl\n")

    def test_all_sets_of_marks(self):
        for number in range(16):
            marks = "".join(mark for place, mark in enumerate("cfhl") if number >> place & 1)
            self.check((box(marks=marks),), f"a - 0 0 4 4 {marks or '-'}\n")

    def test_twelve_boxes(self):
        for scene in (row_of(12), chain_of(12)):
            text = written(scene)
            self.assertEqual(len(text.splitlines()), 12)
            self.check(scene, text)

    def test_the_kinds_of_the_parts(self):
        for one in read(FAMILY_WRITTEN):
            self.assertIs(type(one), tuple)
            self.assertEqual([type(part) for part in one], [str, str, int, int, int, int, str])
        self.assertIs(type(read("")), tuple)

    def test_boxes_in_another_order_are_another_scene(self):
        one, other = (box("a"), box("b")), (box("b"), box("a"))
        self.assertNotEqual(written(one), written(other))
        self.assertEqual(read(written(other)), other)

    def test_what_lies_somewhat_beyond_is_written(self):
        self.assertEqual(written(put_at((box("a"),), "a", 25, -130)), "a - 25 -130 4 4 -\n")
        self.assertEqual(written(row_of(13)), written(row_of(12)) + "m - 12 0 1 4 -\n")


class ReadTest(unittest.TestCase):
    def check_none(self, *texts):
        for text in texts:
            with self.assertRaises(NoText, msg=repr(text)):
                read(text)

    def check_line(self, name="a", around="-", left="0", top="0", width="4", height="4", marks="-", is_box=False):
        text = " ".join((name, around, left, top, width, height, marks)) + "\n"
        if is_box:
            self.assertEqual(written(read(text)), text)
        else:
            self.check_none(text)

    def test_signs_and_zeros_that_no_writing_has(self):
        for part in ("left", "top", "width", "height"):
            self.check_line(**{part: "0"}, is_box=True)
            for wrong in ("+0", "-0", "00", "+4", "04", "004", "4.0", "4.", "1e1", "0x4", "1_0", "--4", "4-", "+-4",
                          "a", "4a", "a4", "-", "", "(4)", "4,", "'4'", "True", "None", "~", "0b1", "0 ", "_4", "4_"):
                self.check_line(**{part: wrong})

    def test_zeros_ahead_of_numbers_below_0(self):
        for part in ("left", "top"):
            self.check_line(**{part: "-4"}, is_box=True)
            self.check_line(**{part: "-04"})
            self.check_line(**{part: "- 4"})
            self.check_line(**{part: "-00"})

    def test_numbers_that_no_box_has(self):
        for part in ("left", "top"):
            for number in ("-20", "20"):
                self.check_line(**{part: number}, is_box=True)
            for number in ("-21", "21", "100", "-100", "9" * 30, "-" + "9" * 30):
                self.check_line(**{part: number})
        for part in ("width", "height"):
            for number in ("0", "20"):
                self.check_line(**{part: number}, is_box=True)
            for number in ("-1", "21", "100", "-20", "9" * 30):
                self.check_line(**{part: number})

    def test_numbers_of_very_many_digits(self):
        self.check_line(left="1" * 6000)
        self.check_line(left="0" * 6000)
        self.check_line(left="-" * 6000)

    def test_names(self):
        for name in ("a", "zz", "abc"):
            self.check_line(name=name, is_box=True)
        for name in ("", "-", "A", "abcd", "a1", "1", "a-", "--", "a.b", "~", "''"):
            self.check_line(name=name)

    def test_marks(self):
        for marks in ("-", "c", "cf", "fhl", "cfhl"):
            self.check_line(marks=marks, is_box=True)
        for marks in ("", "--", "fc", "cc", "x", "C", "-c", "c-", "cfhlx", "hf", "0"):
            self.check_line(marks=marks)

    def test_boxes_around_that_are_none(self):
        for around in ("b", "z", "A", "a", "", "--", "0", "aa"):
            self.check_line(around=around)

    def test_blanks_too_many_or_missing(self):
        self.check_none(
            " " + LINE, "a  - 0 0 4 4 -\n", "a -  0 0 4 4 -\n", "a - 0 0 4 4 - \n", "a - 0 0 4 4  -\n", " \n", " ",
            "a- 0 0 4 4 -\n", "a -0 0 4 4 -\n", "a - 00 4 4 -\n", "a - 0 0 4 4-\n", "a-0044-\n", "a - 0 0 44 -\n",
            LINE + " ", LINE + " " + INNER, LINE + INNER + " \n",
        )

    def test_line_feeds_too_many_or_missing(self):
        self.check_none(
            "\n", "\n\n", "\n" + LINE, LINE + "\n", LINE + "\n" + INNER, LINE + INNER + "\n", LINE[:-1],
            LINE + INNER[:-1], LINE[:-1] + INNER, LINE[:-1] + " " + INNER, "a -\n0 0 4 4 -\n", "a - 0 0 4 4 \n-\n",
        )

    def test_words_left_out_or_one_more(self):
        words = LINE.split()
        for place in range(7):
            self.check_none(" ".join(words[:place] + words[place + 1:]) + "\n")
        for place in range(8):
            for more in ("-", "0", "a", "c"):
                self.check_none(" ".join(words[:place] + [more] + words[place:]) + "\n")
        for many in range(7):
            self.check_none(" ".join(words[:many]) + "\n")
        self.check_none("a", "-", "-\n", "a\n", "a -\n", "- - - - - - -\n")

    def test_words_in_another_order(self):
        words = "a - 1 2 3 4 c".split()
        self.check_none(" ".join(words[::-1]) + "\n", "- a 1 2 3 4 c\n", "a 1 - 2 3 4 c\n", "a - c 1 2 3 4\n")

    def test_boxes_in_another_order(self):
        self.assertEqual(read(LINE + INNER), (box("a"), box("b", "a")))
        self.check_none(INNER + LINE)
        lines = FAMILY_WRITTEN.splitlines(keepends=True)
        self.check_none("".join(lines[::-1]), "".join(lines[1:]), "".join(lines[1:] + lines[:1]))

    def test_boxes_that_are_no_scene(self):
        self.check_none(LINE + LINE, LINE + INNER + LINE, LINE + "a - 1 1 1 1 c\n", INNER, "a a 0 0 4 4 -\n",
                        "a b 0 0 4 4 -\nb a 0 0 4 4 -\n", LINE + "b c 0 0 4 4 -\n")

    def test_more_than_twelve_boxes(self):
        self.assertEqual(len(read(written(row_of(12)))), 12)
        self.check_none(written(row_of(13)), written(row_of(26)))

    def test_other_texts(self):
        self.check_none("touchtree", "()", "~", str(FAMILY), "a,-,0,0,4,4,-\n", FAMILY_WRITTEN.upper(),
                        FAMILY_WRITTEN * 2, FAMILY_WRITTEN[:-1], FAMILY_WRITTEN[1:], "# scene\n" + LINE)

    def test_each_sign_left_out_or_doubled(self):
        text = LINE + "bc a -1 3 5 6 cf\nd bc 0 -7 8 9 -\n"
        scene = read(text)
        for place in range(len(text)):
            for other in (text[:place] + text[place + 1:], text[:place] + text[place] + text[place:]):
                try:
                    told = read(other)
                except NoText:
                    continue
                # Still the writing of a scene, then of another one.
                self.assertEqual(written(told), other)
                self.assertNotEqual(told, scene)

    def test_refused_texts_leave_nothing_behind(self):
        self.check_none(LINE + LINE)
        self.assertEqual(read(LINE), (box("a"),))


if __name__ == "__main__":
    unittest.main()
