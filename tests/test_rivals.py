import unittest

from touchtree.rivals import decided, losers, rivals_on

KINDS = ("tap", "long", "across", "along", "drag")


def rival(kind, name="a"):
    return (name, kind)


def path_through(place, *later):
    """A touch that begins at rest, and goes on through these points."""
    return [(0, 0, 0), place, *later]


# All signs of a place, as a list.
def around(x, y):
    return [(sx * x, sy * y) for sx in (1, -1) for sy in (1, -1)]


class AloneCase(unittest.TestCase):
    """One rival without others has the touch only if it claims it."""

    def check_has(self, kind, points, moment):
        self.assertEqual(decided([rival(kind)], points), (rival(kind), moment), (kind, points))
        self.assertEqual(losers([rival(kind)], points), [])

    def check_out(self, kind, points, moment):
        self.assertIsNone(decided([rival(kind)], points), (kind, points))
        self.assertEqual(losers([rival(kind)], points), [(0, moment)])


class TapTest(AloneCase):
    def test_claims_at_the_end(self):
        self.check_has("tap", [(0, 0, 0)], 0)
        self.check_has("tap", [(0, 0, 0), (3, 1, 1), (9, 2, 2)], 9)
        self.check_has("tap", [(5, 0, 0), (5, 0, 0)], 5)

    def test_6_and_7(self):
        for x, y in around(6, 6) + around(6, 0) + around(0, 6):
            self.check_has("tap", [(0, 0, 0), (4, x, y), (9, 0, 0)], 9)
            self.check_has("tap", [(4, x, y)], 4)
        for x, y in around(7, 0) + around(0, 7) + around(7, 7) + around(6, 7) + around(7, 6):
            self.check_out("tap", [(0, 0, 0), (4, x, y), (9, 0, 0)], 4)
            self.check_out("tap", [(4, x, y)], 4)

    def test_moments_30_and_31(self):
        self.check_has("tap", [(0, 0, 0), (30, 0, 0)], 30)
        self.check_out("tap", [(0, 0, 0), (31, 0, 0)], 31)
        self.check_out("tap", [(0, 0, 0), (31, 0, 0), (50, 0, 0)], 31)
        self.check_has("tap", [(30, 0, 0)], 30)
        self.check_out("tap", [(31, 0, 0)], 31)


class LongTest(AloneCase):
    def test_claims_at_a_moment_from_40_on(self):
        self.check_has("long", [(0, 0, 0), (39, 0, 0), (40, 0, 0), (60, 0, 0)], 40)
        self.check_has("long", [(0, 0, 0), (39, 0, 0), (41, 0, 0), (60, 0, 0)], 41)
        self.check_has("long", [(40, 0, 0)], 40)
        # What comes behind that does not matter.
        self.check_has("long", [(0, 0, 0), (40, 6, -6), (41, 20, 20)], 40)

    def test_an_end_at_39_and_40(self):
        self.check_out("long", [(0, 0, 0), (39, 0, 0)], 39)
        self.check_has("long", [(0, 0, 0), (40, 0, 0)], 40)
        self.check_out("long", [(39, 0, 0)], 39)
        self.check_out("long", [(0, 0, 0)], 0)

    def test_moments_30_and_31_do_not_matter(self):
        self.check_has("long", [(30, 0, 0), (31, 0, 0), (40, 0, 0)], 40)

    def test_6_and_7(self):
        for x, y in around(6, 6):
            self.check_has("long", [(0, 0, 0), (5, x, y), (40, x, y), (50, 0, 0)], 40)
        for x, y in around(7, 0) + around(0, 7) + around(7, 7):
            self.check_out("long", [(0, 0, 0), (5, x, y), (40, 0, 0)], 5)
            self.check_out("long", [(0, 0, 0), (40, x, y), (50, 0, 0)], 40)


class AcrossTest(AloneCase):
    # along is across with x and y exchanged.
    kind = "across"

    def points(self, *rows):
        return list(rows)

    def has(self, moment, *rows):
        self.check_has(self.kind, self.points(*rows), moment)

    def out(self, moment, *rows):
        self.check_out(self.kind, self.points(*rows), moment)

    def test_6_and_7(self):
        for x, y in around(7, 0) + around(7, 6) + around(7, 7) + around(20, 7):
            self.has(4, (0, 0, 0), (4, x, y), (9, 0, 0))
            self.has(4, (0, 0, 0), (4, x, y))
            self.has(4, (4, x, y))
        for x, y in around(6, 6) + around(6, 0) + around(0, 6) + around(0, 0):
            self.out(9, (0, 0, 0), (4, x, y), (9, 0, 0))
            self.out(4, (0, 0, 0), (4, x, y))
            self.out(4, (4, x, y))

    def test_the_other_way(self):
        for x, y in around(0, 7) + around(6, 7) + around(7, 8) + around(19, 20):
            self.out(4, (0, 0, 0), (4, x, y), (9, 20, 0))
            self.out(4, (0, 0, 0), (4, x, y))

    def test_moments_do_not_matter(self):
        for moment in (0, 30, 31, 39, 40, 900):
            self.has(moment, (0, 0, 0), (moment, 7, 0), (1000, 0, 0))
            self.out(1000, (0, 0, 0), (moment, 6, 0), (1000, 0, 0))

    def test_the_first_point_far_enough(self):
        self.has(2, (1, 6, 6), (2, 7, 3), (3, 20, 0))
        self.has(3, (1, 6, 0), (2, 6, 6), (3, 9, 9))


class AlongTest(AcrossTest):
    kind = "along"

    def points(self, *rows):
        return [(moment, y, x) for moment, x, y in rows]


class DragTest(AloneCase):
    def test_6_and_7(self):
        for x, y in around(7, 0) + around(0, 7) + around(7, 7) + around(6, 7) + around(7, 6):
            self.check_has("drag", [(0, 0, 0), (4, x, y), (9, 0, 0)], 4)
            self.check_has("drag", [(4, x, y)], 4)
        for x, y in around(6, 6) + around(6, 0) + around(0, 6):
            self.check_out("drag", [(0, 0, 0), (4, x, y), (9, 0, 0)], 9)
            self.check_out("drag", [(4, x, y)], 4)

    def test_moments_do_not_matter(self):
        for moment in (30, 31, 39, 40):
            self.check_out("drag", [(0, 0, 0), (moment, 0, 0)], moment)
            self.check_has("drag", [(0, 0, 0), (moment, 0, -7)], moment)


class DecidedTest(unittest.TestCase):
    def check(self, rivals, points, has, outs):
        self.assertEqual(decided(rivals, points), has)
        self.assertEqual(losers(rivals, points), outs)

    def test_no_rivals(self):
        for points in ([(0, 0, 0)], [(0, 0, 0), (5, 20, 20)], [(50, 0, 0), (60, 0, 0)]):
            self.check([], points, None, [])

    def test_the_first_of_those_that_claim_it(self):
        tap, drag, other = rival("tap", "a"), rival("drag", "b"), rival("tap", "b")
        self.check([tap, other, drag], [(0, 0, 0), (9, 0, 0)], (tap, 9), [(1, 9), (2, 9)])
        self.check([other, tap, drag], [(0, 0, 0), (9, 0, 0)], (other, 9), [(1, 9), (2, 9)])
        across, along = rival("across"), rival("along")
        self.check([across, along, drag], path_through((5, 7, 7)), (across, 5), [(1, 5), (2, 5)])
        self.check([along, across, drag], path_through((5, 7, 7)), (along, 5), [(1, 5), (2, 5)])
        self.check([drag, along, across], path_through((5, 7, 7)), (drag, 5), [(1, 5), (2, 5)])

    def test_who_gives_up_is_out_ahead_of_claims(self):
        # At 7 and 8 across would claim it, but it goes the other way.
        across, drag, along = rival("across"), rival("drag"), rival("along")
        self.check([across, drag, along], path_through((5, 7, 8), (9, 9, 0)), (drag, 5), [(0, 5), (2, 5)])
        self.check([across, along, drag], path_through((5, 7, 8), (9, 9, 0)), (along, 5), [(0, 5), (2, 5)])
        # At 40 long would claim it, but it is moved.
        self.check([rival("long"), drag], path_through((40, 7, 0)), (drag, 40), [(0, 40)])

    def test_who_gave_up_does_not_come_back(self):
        across, tap, drag = rival("across"), rival("tap"), rival("long", "b")
        points = [(0, 0, 0), (5, 0, 7), (6, 20, 0), (7, 0, 0)]
        self.check([across, tap, drag], points, None, [(0, 5), (1, 5), (2, 5)])

    def test_just_one_is_left_of_more_than_one(self):
        tap, long, drag, across = rival("tap"), rival("long"), rival("drag"), rival("across", "b")
        # It need not claim it.
        self.check([tap, long], [(0, 0, 0), (31, 0, 0), (35, 0, 0)], (long, 31), [(0, 31)])
        self.check([long, tap], [(0, 0, 0), (31, 0, 0), (35, 0, 0)], (long, 31), [(1, 31)])
        self.check([tap, drag], [(0, 0, 0), (31, 0, 0), (35, 0, 0)], (drag, 31), [(0, 31)])
        self.check([across, tap, long], path_through((5, 0, 7), (6, 0, 0)), None, [(0, 5), (1, 5), (2, 5)])
        self.check([tap, long, across], path_through((31, 0, 6), (33, 3, 7)), None, [(0, 31), (1, 33), (2, 33)])

    def test_one_left_of_three_after_one_and_one(self):
        tap, across, long = rival("tap"), rival("across"), rival("long")
        points = [(0, 0, 0), (31, 0, 0), (32, 6, 6), (33, 7, 7), (34, 0, 0)]
        self.check([tap, across, long], points, (across, 33), [(0, 31), (2, 33)])
        points = [(0, 0, 0), (31, 0, 0), (32, 6, 6), (38, 6, 6)]
        self.check([tap, across, long], points, None, [(0, 31), (1, 38), (2, 38)])

    def test_two_left_wait(self):
        long, drag, tap = rival("long"), rival("drag"), rival("tap")
        points = [(0, 0, 0), (31, 0, 0), (35, 0, 0), (40, 0, 0), (50, 0, 0)]
        self.check([tap, drag, long], points, (long, 40), [(0, 31), (1, 40)])
        self.check([tap, drag, long], points[:3] + [(39, 7, 0)], (drag, 39), [(0, 31), (2, 39)])

    def test_one_rival_is_not_left_over(self):
        self.assertIsNone(decided([rival("long")], [(0, 0, 0), (31, 0, 0), (39, 0, 0)]))
        self.assertIsNone(decided([rival("drag")], [(0, 0, 0), (31, 6, 0), (39, 0, 0)]))
        self.check([rival("drag")], [(0, 0, 0), (3, 0, 0), (5, 7, 0), (8, 9, 0)], (rival("drag"), 5), [])

    def test_none_is_left(self):
        rivals = [rival(kind) for kind in ("long", "across", "along", "drag")]
        self.check(rivals, [(0, 0, 0), (20, 6, 6)], None, [(0, 20), (1, 20), (2, 20), (3, 20)])
        self.check(rivals[:1] + rivals[3:], [(0, 0, 0), (20, 6, 6)], None, [(0, 20), (1, 20)])

    def test_one_point_is_the_last_one(self):
        rivals = [rival(kind) for kind in KINDS]
        self.check(rivals, [(0, 0, 0)], (rivals[0], 0), [(1, 0), (2, 0), (3, 0), (4, 0)])
        self.check(rivals, [(40, 0, 0)], (rivals[1], 40), [(0, 40), (2, 40), (3, 40), (4, 40)])
        self.check(rivals, [(7, 9, 8)], (rivals[2], 7), [(0, 7), (1, 7), (3, 7), (4, 7)])
        self.check(rivals, [(7, 8, 9)], (rivals[3], 7), [(0, 7), (1, 7), (2, 7), (4, 7)])
        self.check(rivals[4:], [(7, 0, -7)], (rivals[4], 7), [])

    def test_moments_alike(self):
        rivals = [rival("tap"), rival("drag"), rival("across")]
        points = [(5, 0, 0), (5, 6, 6), (5, 0, 8), (5, 9, 0)]
        self.check(rivals, points, (rivals[1], 5), [(0, 5), (2, 5)])

    def test_what_comes_behind_it_does_not_matter(self):
        rivals = [rival("along"), rival("tap"), rival("drag", "b")]
        points = [(0, 0, 0), (4, 0, 7)]
        told = (decided(rivals, points), losers(rivals, points))
        self.assertEqual(told, ((rivals[0], 4), [(1, 4), (2, 4)]))
        for later in ([(9, 50, 0)], [(9, 0, 0), (99, 0, 0)]):
            self.assertEqual((decided(rivals, points + later), losers(rivals, points + later)), told)

    def test_boxes_do_not_matter(self):
        rivals = [("zzz", "tap"), ("a", "tap"), ("zzz", "drag")]
        self.check(rivals, [(1, 0, 0), (2, 0, 0)], (("zzz", "tap"), 2), [(1, 2), (2, 2)])
        self.check(rivals, [(1, 0, 0), (2, 0, 9), (3, 0, 0)], (("zzz", "drag"), 2), [(0, 2), (1, 2)])

    def test_losers_at_several_moments_are_rising_by_number(self):
        rivals = [rival("long"), rival("tap"), rival("across"), rival("along"), rival("drag")]
        points = [(0, 0, 0), (31, 1, 1), (38, 2, 8), (40, 3, 9)]
        self.check(rivals, points, (rivals[3], 38), [(0, 38), (1, 31), (2, 38), (4, 38)])
        told = losers(rivals, points)
        self.assertEqual(told, sorted(told))
        self.assertTrue(all(isinstance(row, tuple) for row in told))

    def test_what_is_handed_in_stays_as_it_was(self):
        rivals = [rival(kind) for kind in KINDS]
        points = [(0, 0, 0), (31, 1, -1), (38, 2, 8), (40, 3, 9)]
        for turn in range(2):
            decided(rivals, points)
            losers(rivals, points).clear()
            self.assertEqual(losers(rivals, points), [(0, 31), (1, 38), (2, 38), (4, 38)])
        self.assertEqual(rivals, [rival(kind) for kind in KINDS])
        self.assertEqual(points, [(0, 0, 0), (31, 1, -1), (38, 2, 8), (40, 3, 9)])
        losers([], points).append("q")
        self.assertEqual(losers([], points), [])


class RivalsOnTest(unittest.TestCase):
    def test_the_last_boxs_first_of_each_in_its_order(self):
        kinds = {"a": ["tap", "drag"], "b": ["long"], "d": ["drag", "across", "tap"]}
        self.assertEqual(rivals_on(["a", "b", "d"], kinds), [
            ("d", "drag"), ("d", "across"), ("d", "tap"), ("b", "long"), ("a", "tap"), ("a", "drag")])
        self.assertEqual(rivals_on(["a"], kinds), [("a", "tap"), ("a", "drag")])

    def test_boxes_without_kinds(self):
        self.assertEqual(rivals_on(["a", "b", "d"], {"b": ["tap"]}), [("b", "tap")])
        self.assertEqual(rivals_on(["a", "b"], {"b": [], "a": ["tap"]}), [("a", "tap")])
        self.assertEqual(rivals_on(["a", "b"], {}), [])

    def test_kinds_of_boxes_that_are_not_on_the_path(self):
        kinds = {"z": ["tap"], "b": ["drag"], "": ["long"], "aa": ["along"]}
        self.assertEqual(rivals_on(["a", "b"], kinds), [("b", "drag")])
        self.assertEqual(rivals_on(["a"], kinds), [])

    def test_an_empty_path(self):
        self.assertEqual(rivals_on([], {"a": ["tap"]}), [])
        self.assertEqual(rivals_on([], {}), [])

    def test_new_lists_and_nothing_changed(self):
        path = ["a", "b"]
        kinds = {"a": ["tap"], "b": ["drag", "long"]}
        rivals_on(path, kinds).clear()
        rivals_on(path, {"b": kinds["b"]}).append("q")
        rivals_on([], kinds).append("q")
        self.assertEqual(rivals_on(path, kinds), [("b", "drag"), ("b", "long"), ("a", "tap")])
        self.assertEqual(rivals_on([], kinds), [])
        self.assertEqual(path, ["a", "b"])
        self.assertEqual(kinds, {"a": ["tap"], "b": ["drag", "long"]})

    def test_what_it_tells_can_be_decided(self):
        rivals = rivals_on(["a", "b"], {"a": ["drag"], "b": ["tap"]})
        self.assertEqual(decided(rivals, [(0, 0, 0), (8, 0, 0)]), (("b", "tap"), 8))
        self.assertEqual(decided(rivals, [(0, 0, 0), (8, 0, 7)]), (("a", "drag"), 8))


if __name__ == "__main__":
    unittest.main()
