import itertools
import random
import unittest

from labelplace.board import Board
from labelplace.errors import LabelError, NoCell, NoDeed, NoDrawing, NoName, NoPlan, NotTwo, TooMany, Twice
from labelplace.losses import least
from labelplace.plans import read_plan
from told import (
    WAYS, names_of, point_named, roomy_plan, some_number, told_least, told_loss, told_open, told_parts, told_setting,
)

REFUSALS = [NoPlan, NotTwo, Twice, NoName, NoCell, TooMany, NoDrawing, NoDeed]
LETTERS = "abcdefghijklmnopqrstuvwxyz"


def told_anew(before, after):
    """The names of the parts that are reckoned anew by [19]."""
    old = told_parts(before)
    anew = []
    for part in told_parts(after):
        if part not in old or any(look(before, name) != look(after, name) for name in part):
            anew += part
    return [name for name in names_of(after) if name in anew]


def look(plan, name):
    point = point_named(plan, name)
    return (point[1:3], told_open(plan, point))


def some_point(chance, name, wide, high, figures=2):
    ways = chance.sample(WAYS, chance.randint(1, 4))
    places = tuple((way, some_number(chance, figures)) for way in ways)
    return (name, chance.randrange(wide), chance.randrange(high), some_number(chance, figures) + 5, places)


class Held(unittest.TestCase):
    def begin(self, plan):
        """A board, and what is known of it so far: its plan and the place of each name."""
        self.board = Board(plan)
        self.known = plan
        self.chosen = dict(zip(names_of(plan), self.hold_setting(plan)))

    def begin_text(self, *lines):
        self.begin(read_plan("\n".join(lines)))

    def hold_setting(self, plan):
        self.assertEqual(self.board.plan(), plan)
        self.assertIs(type(self.board.plan()), tuple)
        setting = self.board.setting()
        self.assertIs(type(setting), list)
        self.assertEqual(len(setting), len(plan[3]))
        self.assertTrue(told_setting(plan, setting), (plan, setting))
        self.assertEqual(told_loss(plan, setting), told_least(plan), plan)
        return setting

    def hold(self, told, points):
        """Holds what was told of a deed, and all that stands behind it, against [18] and [19]."""
        plan = self.known[:3] + (tuple(points),)
        self.assertIs(type(told), list)
        self.assertEqual(told, told_anew(self.known, plan), (self.known, plan))
        setting = self.hold_setting(plan)
        chosen = dict(zip(names_of(plan), setting))
        for name in chosen:
            if name not in told:
                self.assertEqual(chosen[name], self.chosen[name], (self.known, plan, name))
        self.known, self.chosen = plan, chosen
        return told

    def put(self, point):
        return self.hold(self.board.put(point), self.known[3] + (point,))

    def move(self, name, x, y):
        points = [(name, x, y) + point[3:] if point[0] == name else point for point in self.known[3]]
        return self.hold(self.board.move(name, x, y), points)

    def drop(self, name):
        return self.hold(self.board.drop(name), [point for point in self.known[3] if point[0] != name])

    def refused(self, refusal, deed, *given):
        """Refused with just this, and nothing is changed by it."""
        with self.assertRaises(LabelError) as caught:
            getattr(self.board, deed)(*given)
        self.assertIsInstance(caught.exception, ValueError)
        self.assertEqual([kind for kind in REFUSALS if isinstance(caught.exception, kind)], [refusal])
        self.assertEqual(self.board.plan(), self.known)
        self.assertEqual(dict(zip(names_of(self.known), self.board.setting())), self.chosen)
        return caught.exception


class Made(Held):
    def test_many_plans(self):
        chance = random.Random(111)
        for _ in range(60):
            self.begin(roomy_plan(chance, points=6, letters=(1, 3)))

    def test_no_points(self):
        self.begin_text("sheet 1 1")
        self.assertEqual((self.board.plan(), self.board.setting()), ((1, 1, (), ()), []))

    def test_as_least_tells_its_loss(self):
        chance = random.Random(112)
        for _ in range(30):
            plan = roomy_plan(chance)
            self.assertEqual(told_loss(plan, Board(plan).setting()), least(plan)[1])

    def test_what_is_told_is_the_askers_own(self):
        self.begin_text("sheet 9 9", "point ab 1 1 9 right:1", "point c 7 7 9 left:2")
        told = self.board.setting()
        told.clear()
        self.assertEqual(self.board.setting(), [0, 0])
        self.assertIsNot(self.board.setting(), self.board.setting())
        earlier, plan = self.board.setting(), self.board.plan()
        names = self.put(("d", 3, 7, 5, (("right", 1),)))
        kept = list(names)
        self.drop("ab")
        self.assertEqual(earlier, [0, 0])
        self.assertEqual(plan, read_plan("sheet 9 9\npoint ab 1 1 9 right:1\npoint c 7 7 9 left:2"))
        self.assertEqual(names, kept)
        names.clear()
        names.append("more")
        self.assertEqual(self.put(("e", 1, 1, 5, (("right", 1),))), ["e"])

    def test_two_boards_of_one_plan_are_apart(self):
        self.begin_text("sheet 9 9", "point ab 1 1 9 right:1")
        other = Board(self.known)
        other.put(("c", 7, 7, 9, (("left", 2),)))
        other.move("ab", 5, 5)
        self.hold_setting(self.known)
        self.assertEqual(self.board.setting(), [0])


class Deeds(Held):
    def test_rows_of_deeds(self):
        chance = random.Random(113)
        stayed = told = 0
        for number in range(40):
            wide, high = chance.choice(((8, 8), (12, 6), (20, 3), (14, 14), (5, 5)))
            self.begin(roomy_plan(chance, sheet=(wide, high), points=5, kept=2, places=(1, 3), letters=(1, 3)))
            for _ in range(14):
                names = self.some_deed(chance, wide, high, (2, 60)[number % 2])
                told += len(names)
                stayed += len(self.known[3]) - len(names)
        self.assertGreater(told, 500)
        self.assertGreater(stayed, 500)

    def some_deed(self, chance, wide, high, figures):
        names = names_of(self.known)
        taken = {point[1:3]: point[0] for point in self.known[3]}
        deed = chance.choice(("put", "move", "move", "drop"))
        if not names or (deed == "put" and len(names) < 7):
            new = chance.choice([name for name in ("a", "bb", "ccc", "dd", "e", "ff", "ggg", "h") if name not in names])
            point = some_point(chance, new, wide, high, figures)
            while point[1:3] in taken:
                point = some_point(chance, new, wide, high, figures)
            return self.put(point)
        name = chance.choice(names)
        if deed == "drop":
            return self.drop(name)
        free = [cell for cell in itertools.product(range(wide), range(high)) if taken.get(cell, name) == name]
        return self.move(name, *chance.choice(free))

    def test_a_new_point_is_the_last_one(self):
        self.begin_text("sheet 9 9", "point b 1 1 9 right:1", "point a 7 7 9 left:2")
        self.put(("c", 4, 4, 5, (("right", 1),)))
        self.put(("aa", 0, 0, 5, (("right", 1),)))
        self.assertEqual(names_of(self.board.plan()), ["b", "a", "c", "aa"])

    def test_a_moved_point_stays_in_its_turn(self):
        self.begin_text("sheet 9 9", "point b 1 1 9 right:1", "point a 7 7 9 left:2", "point c 4 4 5 up:1")
        self.move("a", 2, 8)
        self.move("b", 8, 8)
        self.assertEqual([point[:3] for point in self.board.plan()[3]], [("b", 8, 8), ("a", 2, 8), ("c", 4, 4)])

    def test_a_point_that_was_taken_away_is_put_in_again(self):
        self.begin_text("sheet 9 9", "point b 1 1 9 right:1", "point a 3 1 9 left:2")
        point = self.known[3][0]
        self.assertEqual(self.drop("b"), ["a"])
        self.assertEqual(self.put(point), ["a", "b"])
        self.assertEqual(names_of(self.board.plan()), ["a", "b"])

    def test_moved_to_its_own_cell(self):
        chance = random.Random(114)
        for _ in range(20):
            self.begin(roomy_plan(chance, points=5, letters=(1, 3)))
            for name, x, y, _, _ in self.known[3]:
                self.assertEqual(self.move(name, x, y), [])

    def test_the_last_point_is_taken_away(self):
        self.begin_text("sheet 3 3", "point a 1 1 9 right:1")
        self.assertEqual(self.drop("a"), [])
        self.assertEqual((self.board.plan(), self.board.setting()), ((3, 3, (), ()), []))

    def test_a_point_without_an_open_place_is_told_itself(self):
        self.begin_text("sheet 3 3", "keep 0 0 3 3")
        self.assertEqual(self.put(("a", 1, 1, 7, (("up", 0),))), ["a"])
        self.assertEqual(self.move("a", 2, 2), ["a"])
        self.assertEqual(self.put(("b", 1, 1, 7, (("up", 0),))), ["b"])
        self.assertEqual(self.drop("a"), [])


class Parts(Held):
    row = ("sheet 19 3", "point a 1 1 9 right:1", "point b 3 1 9 left:2 right:2", "point c 5 1 9 left:3",
           "point far 15 1 9 left:1 right:1")

    def test_one_that_leaves_a_part(self):
        self.begin_text(*self.row)
        self.assertEqual(self.move("a", 0, 0), ["a", "b", "c"])
        self.assertEqual(self.move("a", 8, 0), ["a"])

    def test_one_that_splits_a_part(self):
        self.begin_text(*self.row)
        self.assertEqual(told_parts(self.known), [["a", "b", "c"], ["far"]])
        self.assertEqual(self.drop("b"), ["a", "c"])
        self.assertEqual(told_parts(self.known), [["a"], ["c"], ["far"]])

    def test_one_that_joins_two(self):
        self.begin_text(*self.row)
        point = self.known[3][1]
        self.drop("b")
        self.assertEqual(self.put(point), ["a", "c", "b"])
        self.assertEqual(told_parts(self.known), [["a", "c", "b"], ["far"]])

    def test_one_that_lies_in_the_way_of_a_place(self):
        self.begin_text(*self.row)
        self.assertEqual(self.put(("d", 12, 1, 9, (("up", 5),))), ["far", "d"])
        self.assertEqual(self.board.setting()[3], 1)
        self.assertEqual(self.move("d", 11, 1), ["far", "d"])
        self.assertEqual(self.move("d", 11, 0), ["d"])
        self.assertEqual(self.drop("d"), [])

    def test_one_whose_cell_alone_is_another(self):
        self.begin_text("sheet 9 3", "point a 1 1 9 up:1", "point b 7 1 9 left:1")
        self.assertEqual(self.move("a", 2, 1), ["a"])

    def test_parts_stay_whose_names_stand_in_turn_with_others(self):
        self.begin_text("sheet 20 1", "point a 1 0 9 right:1", "point b 11 0 9 right:1", "point c 3 0 9 left:1",
                        "point d 13 0 9 left:1")
        self.assertEqual(self.move("c", 4, 0), ["a", "c"])
        self.assertEqual(self.drop("b"), ["d"])
        self.assertEqual(self.put(("b", 11, 0, 9, (("right", 1),))), ["d", "b"])
        self.assertEqual(self.move("b", 10, 0), ["d", "b"])
        self.assertEqual(self.drop("b"), [])

    def test_places_that_close_while_the_names_of_the_part_are_the_same(self):
        self.begin_text("sheet 9 5", "point a 1 2 9 right:1 up:4", "point b 3 2 9 left:1 right:7 up:2")
        self.assertEqual(self.put(("c", 4, 2, 9, (("right", 1),))), ["a", "b", "c"])

    def test_a_new_setting_moves_a_name_and_gives_it_back_its_place(self):
        self.begin_text("sheet 9 3", "point a 3 1 50 right:1 left:5")
        self.assertEqual(self.board.setting(), [0])
        self.assertEqual(self.put(("b", 5, 1, 50, (("left", 2), ("up", 30)))), ["a", "b"])
        self.assertEqual(self.board.setting(), [1, 0])
        self.assertEqual(self.drop("b"), ["a"])
        self.assertEqual(self.board.setting(), [0])


class Refused(Held):
    def setUp(self):
        self.begin_text("sheet 7 5", "keep 0 0 1 1", "point a 1 1 9 right:1", "point bc 4 3 9 left:2 right:2")

    def point(self, name, x, y):
        return (name, x, y, 5, (("right", 1),))

    def test_a_name_that_is_there(self):
        for name in ("a", "bc"):
            for x, y in ((3, 3), (1, 1), (4, 3), (7, 0), (-1, 0), (99, 99)):
                self.assertEqual(self.refused(Twice, "put", self.point(name, x, y)).name, name)

    def test_a_name_that_is_not_there(self):
        for name in ("b", "aa", "c", "abcdefgh", "", "A"):
            self.assertEqual(self.refused(NoName, "drop", name).name, name)
            for x, y in ((3, 3), (1, 1), (4, 3), (7, 0), (-1, 0), (99, 99)):
                self.assertEqual(self.refused(NoName, "move", name, x, y).name, name)

    def test_a_name_that_was_taken_away(self):
        self.drop("a")
        self.assertEqual(self.refused(NoName, "drop", "a").name, "a")
        self.assertEqual(self.refused(NoName, "move", "a", 1, 1).name, "a")

    def test_a_cell_out_of_the_sheet(self):
        for cell in ((-1, 2), (7, 2), (3, -1), (3, 5), (-1, -1), (7, 5), (10 ** 60, 0), (0, 10 ** 60), (-5, 2), (5, 6)):
            self.assertEqual(self.refused(NoCell, "put", self.point("d", *cell)).cell, cell)
            self.assertEqual(self.refused(NoCell, "move", "a", *cell).cell, cell)

    def test_the_sheets_own_edges(self):
        for cell in ((0, 0), (6, 0), (0, 4), (6, 4)):
            self.move("a", *cell)
            self.put(self.point("d", 3, 0))
            self.drop("d")

    def test_another_points_cell(self):
        self.assertEqual(self.refused(NoCell, "put", self.point("d", 1, 1)).cell, (1, 1))
        self.assertEqual(self.refused(NoCell, "put", self.point("d", 4, 3)).cell, (4, 3))
        self.assertEqual(self.refused(NoCell, "move", "a", 4, 3).cell, (4, 3))
        self.assertEqual(self.refused(NoCell, "move", "bc", 1, 1).cell, (1, 1))
        self.assertIs(type(self.refused(NoCell, "move", "bc", 1, 1).cell), tuple)

    def test_a_cell_that_was_left_is_free(self):
        self.move("a", 6, 0)
        self.move("bc", 1, 1)
        self.put(self.point("d", 4, 3))

    def test_a_kept_cell_is_free_for_a_point(self):
        self.put(self.point("d", 0, 0))

    def test_refusals_and_deeds_by_turns(self):
        chance = random.Random(115)
        for _ in range(25):
            self.refused(Twice, "put", self.point("a", 3, 3))
            self.move("a", chance.randrange(7), chance.randrange(3))
            self.refused(NoCell, "move", "a", 4, 3)
            self.put(self.point("d", chance.randrange(7), 4))
            self.refused(NoCell, "put", self.point("e", 7, 4))
            self.drop("d")
            self.refused(NoName, "drop", "d")


class TwentySix(Held):
    def setUp(self):
        rows = [f"point {name} {k % 20} {3 * (k // 20)} 5 below:1 above:1" for k, name in enumerate(LETTERS)]
        self.begin_text("sheet 20 6", *rows[:25])

    def test_a_twenty_seventh_point(self):
        point = ("zz", 19, 5, 5, (("left", 1),))
        self.put(point)
        self.assertEqual(len(self.board.plan()[3]), 26)
        self.refused(TooMany, "put", ("new", 10, 5, 5, (("left", 1),)))
        self.move("zz", 18, 5)
        self.refused(TooMany, "put", ("new",) + point[1:])
        self.drop("a")
        self.put(("new",) + point[1:])
        self.refused(TooMany, "put", ("newer", 10, 5, 5, (("left", 1),)))

    def test_in_the_turn_that_is_told(self):
        self.put(("zz", 19, 5, 5, (("left", 1),)))
        self.assertEqual(self.refused(Twice, "put", ("zz", 10, 5, 5, (("left", 1),))).name, "zz")
        self.assertEqual(self.refused(Twice, "put", ("a", 20, 5, 5, (("left", 1),))).name, "a")
        self.assertEqual(self.refused(NoCell, "put", ("new", 20, 5, 5, (("left", 1),))).cell, (20, 5))
        self.assertEqual(self.refused(NoCell, "put", ("new", 19, 5, 5, (("left", 1),))).cell, (19, 5))
        self.assertEqual(self.refused(NoName, "move", "new", 20, 5).name, "new")
        self.assertEqual(self.refused(NoCell, "move", "a", 20, 5).cell, (20, 5))


if __name__ == "__main__":
    unittest.main()
