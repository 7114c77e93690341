import itertools
import random
import unittest

import labelplace.errors
from labelplace.errors import LabelError, NotTwo
from labelplace.plans import read_plan
from labelplace.twos import all_set, follow
from told import (
    WAYS, barred_cells, names_of, place_cells, roomy_plan, settings_of, some_plan, told_chain, told_follow, told_setting,
)


def twos_plan(chance, **given):
    return roomy_plan(chance, **{"places": (2, 2), **given})


def step_way(one, other):
    """The way by which a name of one letter at a point lies in the cell beside it."""
    return {(1, 0): "right", (-1, 0): "left", (0, -1): "up", (0, 1): "down"}[(other[0] - one[0], other[1] - one[1])]


def snake(points, kept):
    """Points along a path that turns about at the sheet's sides, each with the cell ahead of it and the one behind it.

    There is a cell between each two and one at the end, which may be kept: then there is a cell too few."""
    path = []
    for row in range(0, 20, 2):
        xs = list(range(19))
        if row % 4:
            xs.reverse()
        path += [(x, row) for x in xs] + [(xs[-1], row + 1)]
    told = []
    for number, name in enumerate("abcdefghijklmnopqrstuvwxyz"[:points]):
        cell, behind = path[2 * number], path[2 * number + 1]
        ahead = path[2 * number - 1] if number else (-1, 0)
        places = ((step_way(cell, behind), 1), (step_way(cell, ahead), 1))
        told.append((name, cell[0], cell[1], 1, places))
    last = path[2 * points - 1]
    return (20, 20, ((last[0], last[1], 1, 1),) if kept else (), tuple(told))


class Follow(unittest.TestCase):
    def hold(self, plan):
        told = {}
        for name, place in itertools.product(names_of(plan), (0, 1)):
            follows = follow(plan, name, place)
            self.assertIs(type(follows), list)
            self.assertEqual([type(one) for one in follows], [tuple] * len(follows))
            self.assertEqual(len(follows), len(set(follows)))
            self.assertEqual(set(follows), told_follow(plan, name, place), (plan, name, place))
            told[(name, place)] = set(follows)
            follows.clear()
            self.assertEqual(set(follow(plan, name, place)), told[(name, place)])
        for name, place in told:
            for other, q in told[(name, place)]:
                self.assertIn((name, 1 - place), told[(other, 1 - q)])
        return sum(map(len, told.values()))

    def test_many_plans(self):
        chance = random.Random(16)
        links = [self.hold(twos_plan(chance, points=9)) for _ in range(150)]
        links += [self.hold(some_plan(chance, points=9, kept=4, side=4, places=(2, 2))) for _ in range(60)]
        self.assertGreater(sum(links), 1000)

    def test_crowded_plans(self):
        chance = random.Random(17)
        for _ in range(60):
            self.hold(twos_plan(chance, sheet=(8, 8), points=14, kept=1, letters=(1, 3)))

    def test_a_place_that_is_not_open(self):
        plan = read_plan("sheet 6 1\npoint abc 0 0 1 left:1 right:1\npoint de 5 0 1 left:1 right:1")
        self.assertEqual(follow(plan, "abc", 0), [("abc", 1)])
        self.assertEqual(follow(plan, "de", 1), [("de", 0)])

    def test_open_places_that_meet(self):
        plan = read_plan("sheet 6 1\npoint abc 0 0 1 left:1 right:1\npoint de 5 0 1 left:1 right:1")
        self.assertEqual(follow(plan, "abc", 1), [("de", 1)])
        self.assertEqual(follow(plan, "de", 0), [("abc", 0)])

    def test_both_places_of_the_other_meet(self):
        plan = read_plan("sheet 6 3\npoint abcd 0 0 1 right:1 down:1\npoint f 3 1 1 above:1 up:1")
        self.assertEqual(sorted(follow(plan, "abcd", 0)), [("f", 0), ("f", 1)])
        self.assertEqual(follow(plan, "f", 0), [("abcd", 1)])
        self.assertEqual(follow(plan, "f", 1), [("abcd", 1)])
        self.assertEqual(follow(plan, "abcd", 1), [("abcd", 0)])

    def test_places_that_are_not_open_are_met_by_none(self):
        plan = read_plan("sheet 6 1\nkeep 3 0 1 1\npoint abc 0 0 1 left:1 right:1\npoint d 5 0 1 left:1 right:1")
        self.assertEqual(follow(plan, "abc", 1), [("abc", 0)])
        self.assertEqual(follow(plan, "d", 0), [])

    def test_its_own_other_place_is_not_met(self):
        plan = read_plan("sheet 3 3\npoint a 1 1 1 up:1 above:1")
        self.assertEqual((follow(plan, "a", 0), follow(plan, "a", 1)), ([], []))


class AllSet(unittest.TestCase):
    def hold(self, plan):
        """Holds what is told against [12]; tells whether all names were set."""
        told = all_set(plan)
        self.assertIs(type(told), tuple)
        self.assertEqual(len(told), 2)
        self.assertEqual(told.count(None), 1)
        if told[1] is None:
            self.hold_setting(plan, told[0])
        else:
            self.hold_chain(plan, told[1])
        kept = repr(told)
        told[told[0] is None].clear()
        self.assertEqual(repr(all_set(plan)), kept)
        return told[1] is None

    def hold_setting(self, plan, setting):
        self.assertIs(type(setting), list)
        self.assertEqual(len(setting), len(plan[3]))
        self.assertEqual({type(place) for place in setting} - {int}, set())
        self.assertTrue(told_setting(plan, setting), (plan, setting))
        seen = barred_cells(plan)
        for point, place in zip(plan[3], setting):
            cells = place_cells(point, place)
            self.assertTrue(all(0 <= x < plan[0] and 0 <= y < plan[1] for x, y in cells))
            self.assertFalse(cells & seen)
            seen = seen | cells

    def hold_chain(self, plan, chain):
        self.assertIs(type(chain), list)
        self.assertEqual([type(one) for one in chain], [tuple] * len(chain))
        self.assertTrue(told_chain(plan, chain), (plan, chain))

    def test_small_plans_against_all_choices(self):
        chance = random.Random(18)
        counts = {True: 0, False: 0}
        for number in range(500):
            sheet = (chance.randint(3, 7), chance.randint(2, 6))
            plan = twos_plan(chance, sheet=sheet, points=6, kept=number % 2, letters=(1, 3))
            told = self.hold(plan)
            self.assertEqual(told, any(True for _ in settings_of(plan, out=False)), plan)
            counts[told] += 1
        self.assertGreater(min(counts.values()), 50)

    def test_rows_of_points_that_push_one_another(self):
        chance = random.Random(19)
        counts = {True: 0, False: 0}
        for _ in range(300):
            xs = sorted(chance.sample(range(14), chance.randint(2, 6)))
            points = tuple((name, x, 0, 1, (("left", 1), ("right", 1))) for name, x in zip("abcdef", xs))
            plan = (14, 1, (), points)
            told = self.hold(plan)
            self.assertEqual(told, any(True for _ in settings_of(plan, out=False)), plan)
            counts[told] += 1
        self.assertGreater(min(counts.values()), 30)

    def test_points_close_together(self):
        chance = random.Random(30)
        counts = {True: 0, False: 0}
        for _ in range(1500):
            cells = chance.sample(list(itertools.product((2, 3, 4), (2, 3, 4))), chance.randint(2, 5))
            points = tuple(
                (letter * chance.randint(1, 4), x, y, 1, tuple((way, 1) for way in chance.sample(WAYS, 2)))
                for letter, (x, y) in zip("abcde", cells)
            )
            plan = (7, 7, (), points)
            told = self.hold(plan)
            self.assertEqual(told, any(True for _ in settings_of(plan, out=False)), plan)
            counts[told] += 1
        self.assertGreater(min(counts.values()), 100)

    def test_a_place_that_leads_to_both_places_of_another(self):
        plan = read_plan("sheet 5 5\npoint tp 0 3 1 above:1 up:1\npoint mho 1 3 1 above:1 up:1")
        self.assertEqual(all_set(plan), ([1, 1], None))
        plan = read_plan("sheet 5 5\npoint mho 1 3 1 up:1 above:1\npoint tp 0 3 1 up:1 above:1")
        self.assertEqual(all_set(plan), ([0, 0], None))

    def test_twenty_six_points(self):
        chance = random.Random(20)
        counts = {True: 0, False: 0}
        names = [a + b for a, b in zip("abcdefghijklmnopqrstuvwxyz", "zyxwvutsrqponmlkjihgfedcba")]
        for number in range(60):
            cells = chance.sample(list(itertools.product(range(1, 19), range(1, 19))), 26)
            ways = [chance.sample(WAYS, 2) for _ in names]
            points = tuple(
                (name[:1 + number % 2], x, y, 1, tuple((way, 1) for way in two))
                for name, (x, y), two in zip(names, cells, ways)
            )
            counts[self.hold((20, 20, (), points))] += 1
        self.assertGreater(min(counts.values()), 3)

    def test_a_long_chain(self):
        for points in (1, 2, 3, 9, 10, 11, 25, 26):
            self.assertTrue(self.hold(snake(points, False)))
            self.assertFalse(self.hold(snake(points, True)))
            self.assertEqual(all_set(snake(points, False)), ([0] * points, None))
        self.assertGreater(len(all_set(snake(26, True))[1]), 26)

    def test_the_turn_of_points_and_places_does_not_matter(self):
        chance = random.Random(21)
        for kept in (False, True):
            wide, high, boxes, points = snake(20, kept)
            for _ in range(10):
                turned = [point[:4] + (tuple(chance.sample(point[4], 2)),) for point in points]
                chance.shuffle(turned)
                self.assertEqual(self.hold((wide, high, boxes, tuple(turned))), not kept)

    def test_no_point(self):
        self.assertEqual(all_set(read_plan("sheet 1 1")), ([], None))
        self.assertTrue(self.hold(read_plan("sheet 20 20\nkeep 0 0 20 20")))

    def test_a_point_without_an_open_place(self):
        plan = read_plan("sheet 9 9\npoint a 4 4 1 up:1 down:1\npoint abc 0 0 1 left:1 up:1")
        self.assertFalse(self.hold(plan))
        self.assertEqual({name for name, _ in all_set(plan)[1]}, {"abc"})

    def test_never_a_name_out_though_that_loses_less(self):
        plan = read_plan("sheet 9 9\npoint a 4 4 0 up:99 down:99")
        self.assertTrue(self.hold(plan))


class NotTwoPlaces(unittest.TestCase):
    def refuse(self, plan, name):
        first = names_of(plan)[0]
        asked = [lambda: all_set(plan), lambda: follow(plan, first, 0), lambda: follow(plan, name, 0)]
        for ask in asked + [lambda: follow(plan, names_of(plan)[-1], 1)]:
            with self.assertRaises(NotTwo) as caught:
                ask()
            self.assertIs(type(caught.exception), NotTwo)
            self.assertEqual(caught.exception.name, name)
            self.assertIsInstance(caught.exception, LabelError)
            self.assertIsInstance(caught.exception, ValueError)
            for other in ("NoPlan", "Twice", "NoName", "NoCell", "TooMany", "NoDrawing", "NoDeed"):
                self.assertNotIsInstance(caught.exception, getattr(labelplace.errors, other))

    def point(self, name, y, count):
        return (name, 9, y, 1, tuple((way, 1) for way in WAYS[:count]))

    def test_one_place_or_three_to_six(self):
        for count in (1, 3, 4, 5, 6):
            self.refuse((20, 20, (), (self.point("ulm", 0, count),)), "ulm")
            for turn in range(4):
                points = [self.point(name, y, 2) for y, name in enumerate(("bonn", "kiel", "hof"))]
                points.insert(turn, self.point("ulm", 9, count))
                self.refuse((20, 20, (), tuple(points)), "ulm")

    def test_the_first_such_point(self):
        for counts in itertools.product((1, 2, 3), repeat=4):
            if set(counts) != {2}:
                points = [self.point(name, 3 * y, count) for y, (name, count) in enumerate(zip("zbya", counts))]
                first = next(point[0] for point in points if len(point[4]) != 2)
                self.refuse((20, 20, (), tuple(points)), first)

    def test_no_open_place_is_asked_for(self):
        self.refuse(read_plan("sheet 1 1\npoint a 0 0 1 up:1"), "a")
        plan = read_plan("sheet 9 9\nkeep 5 4 1 1\npoint a 4 4 1 up:1 down:1 right:1")
        self.refuse(plan, "a")


if __name__ == "__main__":
    unittest.main()
