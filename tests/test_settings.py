import copy
import itertools
import random
import unittest

from labelplace.plans import read_plan
from labelplace.settings import barred_by, box_of, is_setting, loss_of, open_places
from told import (
    WAYS, names_of, place_cells, point_named, roomy_plan, settings_of, some_plan, some_setting, told_bars, told_box,
    told_loss, told_open, told_setting,
)

SIXTY = 10 ** 60 - 1
ALL_WAYS = " ".join(f"{way}:{number}" for number, way in enumerate(WAYS))


class OpenPlaces(unittest.TestCase):
    def hold(self, plan):
        for point in plan[3]:
            told = open_places(plan, point[0])
            self.assertIs(type(told), list)
            self.assertEqual(told, told_open(plan, point), (plan, point[0]))
            self.assertEqual([type(place) for place in told], [int] * len(told))
            told.clear()
            self.assertEqual(open_places(plan, point[0]), told_open(plan, point))

    def test_sheets_from_one_by_one_to_twenty_by_twenty(self):
        chance = random.Random(8)
        for sheet in itertools.product(range(1, 21), range(1, 21)):
            self.hold(some_plan(chance, sheet=sheet, points=12, kept=6, side=5))
            self.hold(roomy_plan(chance, sheet=sheet, points=12, letters=(1, 8)))

    def test_full_plans(self):
        chance = random.Random(9)
        for _ in range(60):
            self.hold(some_plan(chance))

    def test_each_size_and_count_of_places_beside_one_point(self):
        for size, count in itertools.product(range(1, 9), range(1, 7)):
            for x, y in itertools.product((0, 7, 8, 11), (0, 7, 8, 11)):
                places = tuple((way, 1) for way in WAYS[:count])
                self.hold((12, 12, (), (("abcdefgh"[:size], x, y, 1, places),)))

    def test_each_side_of_the_sheet(self):
        plan = read_plan(f"sheet 7 7\npoint abc 3 3 1 {ALL_WAYS}")
        self.assertEqual(open_places(plan, "abc"), [0, 1, 2, 3, 4, 5])
        for cell, told in (("4 3", [1, 2, 3, 4, 5]), ("2 3", [0, 2, 3, 4, 5]),
                           ("3 2", [0, 1, 2, 3, 5]), ("3 4", [0, 1, 2, 3, 4]),
                           ("0 0", [0, 5]), ("6 6", [1, 4]), ("0 6", [0, 4]), ("6 0", [1, 5])):
            plan = read_plan(f"sheet 7 7\npoint abc {cell} 1 {ALL_WAYS}")
            self.assertEqual(open_places(plan, "abc"), told, cell)

    def test_a_kept_cell_just_within_and_just_beside(self):
        for cell in itertools.product(range(9), range(9)):
            plan = read_plan(f"sheet 9 9\nkeep {cell[0]} {cell[1]} 1 1\npoint abc 4 4 1 {ALL_WAYS}")
            barred = [place for place in range(6) if cell in place_cells(plan[3][0], place)]
            self.assertEqual(open_places(plan, "abc"), [place for place in range(6) if place not in barred], cell)

    def test_the_cell_of_another_point_ahead_or_behind(self):
        for cell in itertools.product(range(9), range(9)):
            if cell == (4, 4):
                continue
            other, own = f"point b {cell[0]} {cell[1]} 1 up:1", f"point abc 4 4 1 {ALL_WAYS}"
            for rows in ((other, own), (own, other)):
                plan = read_plan("\n".join(("sheet 9 9",) + rows))
                barred = [place for place in range(6) if cell in place_cells(point_named(plan, "abc"), place)]
                self.assertEqual(open_places(plan, "abc"), [place for place in range(6) if place not in barred])

    def test_kept_boxes_on_one_another_and_on_the_point_itself(self):
        plan = read_plan(f"sheet 9 9\nkeep 4 4 1 1\nkeep 4 4 2 1\nkeep 5 4 1 1\npoint abc 4 4 1 {ALL_WAYS}")
        self.assertEqual(open_places(plan, "abc"), [1, 2, 3, 4, 5])
        plan = read_plan(f"sheet 9 9\nkeep 4 4 1 1\npoint abc 4 4 1 {ALL_WAYS}")
        self.assertEqual(open_places(plan, "abc"), [0, 1, 2, 3, 4, 5])

    def test_none_open_on_a_sheet_of_one_cell(self):
        self.assertEqual(open_places(read_plan(f"sheet 1 1\npoint a 0 0 1 {ALL_WAYS}"), "a"), [])

    def test_two_places_with_the_same_box(self):
        plan = read_plan("sheet 3 3\npoint a 1 1 1 up:1 above:2 down:3 below:4")
        self.assertEqual(open_places(plan, "a"), [0, 1, 2, 3])

    def test_other_names_places_bar_none(self):
        plan = read_plan("sheet 7 1\npoint abc 0 0 1 right:1\npoint def 4 0 1 left:1")
        self.assertEqual((open_places(plan, "abc"), open_places(plan, "def")), ([0], [0]))


class BoxOf(unittest.TestCase):
    def test_each_place_of_each_point_open_or_not(self):
        chance = random.Random(10)
        counts = {True: 0, False: 0}
        for _ in range(200):
            plan = some_plan(chance, kept=8, side=6)
            for point in plan[3]:
                for place in range(len(point[4])):
                    box = box_of(plan, point[0], place)
                    self.assertIs(type(box), tuple)
                    self.assertEqual(box, told_box(point, place))
                    counts[place in told_open(plan, point)] += 1
        self.assertGreater(min(counts.values()), 500)

    def test_written_out(self):
        plan = read_plan(f"sheet 1 1\npoint abcd 0 0 1 {ALL_WAYS}")
        boxes = [box_of(plan, "abcd", place) for place in range(6)]
        told = [(1, 0, 4, 1), (-4, 0, 4, 1), (-1, -1, 4, 1), (-1, 1, 4, 1), (0, -4, 1, 4), (0, 1, 1, 4)]
        self.assertEqual(boxes, told)


class IsSetting(unittest.TestCase):
    def hold(self, plan, setting, told):
        handed = list(setting)
        self.assertIs(is_setting(plan, handed), told, (plan, setting))
        self.assertEqual(handed, setting)

    def test_no_point(self):
        self.hold(read_plan("sheet 1 1"), [], True)

    def test_settings_of_many_plans(self):
        chance = random.Random(11)
        for _ in range(200):
            plan = roomy_plan(chance)
            setting = some_setting(chance, plan)
            self.hold(plan, setting, True)
            self.hold(plan, [None] * len(plan[3]), True)

    def test_one_number_changed(self):
        chance = random.Random(12)
        counts = {True: 0, False: 0}
        for _ in range(200):
            plan = roomy_plan(chance)
            setting = some_setting(chance, plan)
            for number, point in enumerate(plan[3]):
                count = len(point[4])
                for place in [None, -1, -count, -count - 1, count, count + 1, chance.randrange(count), 300]:
                    changed = setting[:number] + [place] + setting[number + 1:]
                    told = told_setting(plan, changed)
                    self.hold(plan, changed, told)
                    counts[told] += 1
        self.assertGreater(min(counts.values()), 500)

    def test_all_choices_of_small_plans(self):
        chance = random.Random(13)
        counts = {True: 0, False: 0}
        for _ in range(60):
            plan = roomy_plan(chance, sheet=(5, 4), points=3, kept=1)
            all_told = list(settings_of(plan))
            for setting in itertools.product(*[[None] + list(range(-1, len(point[4]) + 1)) for point in plan[3]]):
                told = list(setting) in all_told
                self.hold(plan, list(setting), told)
                counts[told] += 1
        self.assertGreater(min(counts.values()), 100)

    def test_numbers_that_the_point_has_no_place_for(self):
        plan = read_plan(f"sheet 9 9\npoint abc 4 4 1 {ALL_WAYS}\npoint d 0 0 1 right:1")
        for place in (None, 0, 1, 2, 3, 4, 5):
            self.hold(plan, [place, None], True)
        for place in (-7, -6, -2, -1, 6, 7, 10 ** 60):
            self.hold(plan, [place, None], False)
        for place in (-1, 1):
            self.hold(plan, [None, place], False)

    def test_a_place_that_is_not_open(self):
        for rows in ("sheet 4 1\npoint abc 1 0 1 right:1", "sheet 9 1\nkeep 3 0 1 1\npoint abc 0 0 1 right:1",
                     "sheet 9 1\npoint abc 0 0 1 right:1\npoint d 2 0 1 left:1",
                     "sheet 9 1\npoint abc 0 0 1 right:1\npoint d 3 0 1 left:1"):
            plan = read_plan(rows)
            setting = [None] * len(plan[3])
            self.hold(plan, setting, True)
            self.hold(plan, [0] + setting[1:], False)

    def test_two_boxes_that_meet(self):
        plan = read_plan("sheet 6 2\npoint abc 0 0 1 right:1\npoint de 5 0 1 left:1\npoint f 3 1 1 above:1 right:1")
        self.hold(plan, [0, None, None], True)
        self.hold(plan, [None, 0, None], True)
        self.hold(plan, [0, 0, None], False)
        self.hold(plan, [0, None, 0], False)
        self.hold(plan, [None, 0, 0], False)
        self.hold(plan, [0, None, 1], True)


class LossOf(unittest.TestCase):
    def hold(self, plan, setting, told):
        handed = list(setting)
        loss = loss_of(plan, handed)
        self.assertIs(type(loss), int)
        self.assertEqual(loss, told)
        self.assertEqual(handed, setting)

    def test_written_out(self):
        plan = read_plan("sheet 9 9\npoint abc 4 4 7 right:2 left:30\npoint d 0 0 500 right:11")
        self.hold(plan, [None, None], 507)
        self.hold(plan, [0, None], 502)
        self.hold(plan, [1, None], 530)
        self.hold(plan, [None, 0], 18)
        self.hold(plan, [1, 0], 41)
        self.hold(read_plan("sheet 1 1"), [], 0)

    def test_sixty_figures(self):
        rows = [f"point {name} 4 {k} {SIXTY} right:{SIXTY}" for k, name in enumerate("abcdefghi")]
        plan = read_plan("\n".join(["sheet 9 9"] + rows))
        self.hold(plan, [None] * 9, 9 * SIXTY)
        self.hold(plan, [0] * 9, 9 * SIXTY)
        self.hold(plan, [0, None] * 4 + [0], 9 * SIXTY)

    def test_prices_and_losses_of_0(self):
        plan = read_plan("sheet 9 9\npoint abc 4 4 0 right:0")
        self.hold(plan, [None], 0)
        self.hold(plan, [0], 0)

    def test_many_plans(self):
        chance = random.Random(14)
        for _ in range(200):
            plan = roomy_plan(chance, figures=60)
            setting = some_setting(chance, plan)
            self.hold(plan, setting, told_loss(plan, setting))


class BarredBy(unittest.TestCase):
    def hold(self, plan, setting, name, told):
        handed = list(setting)
        self.assertTrue(told_setting(plan, setting))
        bars = barred_by(plan, handed, name)
        self.assertIs(type(bars), list)
        self.assertEqual(bars, told, (plan, setting, name))
        for bar in bars:
            self.assertIn(type(bar), (tuple, type(None)))
        bars.clear()
        self.assertEqual(barred_by(plan, handed, name), told)
        self.assertEqual(handed, setting)

    def test_each_of_the_five(self):
        plan = read_plan("\n".join((
            "sheet 5 5", "keep 3 2 1 1", "keep 0 0 1 1", "point ab 2 2 1 right:1 left:1 up:1 down:1 above:1",
            "point c 0 2 1 up:1", "point d 2 0 1 left:1", "point e 3 3 1 left:1 right:1", "point f 0 4 1 left:1",
        )))
        self.hold(plan, [None, None, None, 0, None], "ab",
                  [("keep", 0), ("point", "c"), ("point", "d"), ("name", "e"), None])
        self.hold(plan, [None, None, None, 1, None], "ab",
                  [("keep", 0), ("point", "c"), ("point", "d"), None, None])
        self.hold(plan, [None, None, None, None, None], "f", [("sheet",)])

    def test_the_sheet_ahead_of_all_else(self):
        plan = read_plan("sheet 3 1\nkeep 1 0 1 1\npoint abc 0 0 1 right:1\npoint d 2 0 1 left:1")
        self.hold(plan, [None, None], "abc", [("sheet",)])
        plan = read_plan("sheet 3 2\npoint abc 0 0 1 right:1\npoint d 2 1 1 above:1")
        self.hold(plan, [None, 0], "abc", [("sheet",)])
        plan = read_plan("sheet 3 1\npoint abc 0 0 1 right:1\npoint d 1 0 1 right:1")
        self.hold(plan, [None, None], "abc", [("sheet",)])

    def test_a_point_ahead_of_a_kept_box(self):
        plan = read_plan("sheet 5 1\nkeep 1 0 1 1\npoint abc 0 0 1 right:1\npoint d 3 0 1 right:1")
        self.hold(plan, [None, None], "abc", [("point", "d")])
        plan = read_plan("sheet 5 1\nkeep 1 0 4 1\npoint d 3 0 1 right:1\npoint abc 0 0 1 right:1")
        self.hold(plan, [None, None], "abc", [("point", "d")])

    def test_a_point_ahead_of_a_name(self):
        plan = read_plan("sheet 5 2\npoint f 1 1 1 above:1\npoint abc 0 0 1 right:1\npoint d 3 0 1 right:1")
        self.hold(plan, [0, None, None], "abc", [("point", "d")])

    def test_a_kept_box_ahead_of_a_name(self):
        plan = read_plan("sheet 5 2\nkeep 3 0 1 1\npoint f 1 1 1 above:1\npoint abc 0 0 1 right:1")
        self.hold(plan, [0, None], "abc", [("keep", 0)])
        self.hold(plan, [None, None], "abc", [("keep", 0)])

    def test_the_first_point_in_turn_not_the_nearest(self):
        for names in itertools.permutations("def"):
            rows = [f"point {name} {'def'.index(name) + 1} 0 1 down:1" for name in names]
            for place in range(4):
                own = ["point abc 0 0 1 right:1"]
                plan = read_plan("\n".join(["sheet 5 2"] + rows[:place] + own + rows[place:]))
                self.hold(plan, [None] * 4, "abc", [("point", names[0])])

    def test_the_first_kept_box_by_its_number(self):
        for order in itertools.permutations((0, 1, 2, 3)):
            rows = [f"keep {x} 0 1 1" for x in order]
            plan = read_plan("\n".join(["sheet 5 2"] + rows + ["point ab 0 0 1 right:1 down:1"]))
            first = next(number for number, x in enumerate(order) if x in (1, 2))
            self.hold(plan, [None], "ab", [("keep", first), ("sheet",)])

    def test_kept_boxes_on_one_another(self):
        plan = read_plan("sheet 5 1\nkeep 4 0 1 1\nkeep 1 0 2 1\nkeep 1 0 2 1\npoint ab 0 0 1 right:1")
        self.hold(plan, [None], "ab", [("keep", 1)])

    def test_the_first_name_in_turn_not_the_nearest(self):
        for names in itertools.permutations("def"):
            rows = [f"point {name} {'def'.index(name) + 1} 1 1 below:1 above:1" for name in names]
            for place in range(4):
                own = ["point abc 0 0 1 right:1"]
                plan = read_plan("\n".join(["sheet 5 3"] + rows[:place] + own + rows[place:]))
                setting = [None if name == "abc" else 1 for name in names_of(plan)]
                self.hold(plan, setting, "abc", [("name", names[0])])
                setting[names_of(plan).index(names[0])] = 0
                self.hold(plan, setting, "abc", [("name", names[1])])
                setting[names_of(plan).index(names[1])] = None
                self.hold(plan, setting, "abc", [("name", names[2])])

    def test_its_own_box_does_not_bar_it(self):
        plan = read_plan("sheet 9 9\npoint abc 4 4 1 right:1 left:1 above:1 up:1\npoint d 0 0 1 right:1")
        for place in (None, 0, 1, 2, 3):
            self.hold(plan, [place, None], "abc", [None] * 4)
            self.hold(plan, [place, 0], "abc", [None] * 4)

    def test_a_name_that_stays_out_bars_none(self):
        plan = read_plan("sheet 6 1\npoint abc 0 0 1 right:1\npoint de 5 0 1 left:1")
        self.hold(plan, [None, None], "abc", [None])
        self.hold(plan, [None, 0], "abc", [("name", "de")])
        self.hold(plan, [0, None], "de", [("name", "abc")])

    def test_many_plans(self):
        chance = random.Random(15)
        counts = {}
        for number in range(300):
            plan = some_plan(chance, points=10, kept=5, side=4) if number % 2 else roomy_plan(chance)
            for setting in (some_setting(chance, plan), [None] * len(plan[3])):
                for name in names_of(plan):
                    told = told_bars(plan, setting, name)
                    self.hold(plan, setting, name, told)
                    for bar in told:
                        word = bar and bar[0]
                        counts[word] = counts.get(word, 0) + 1
        self.assertEqual(set(counts), {"sheet", "point", "keep", "name", None})
        self.assertGreater(min(counts.values()), 100)


class Nothing(unittest.TestCase):
    def test_what_is_told_hangs_on_the_plan_alone(self):
        one = read_plan(f"sheet 9 9\npoint abc 4 4 1 {ALL_WAYS}")
        other = read_plan(f"sheet 9 9\nkeep 0 0 9 9\npoint abc 4 4 1 {ALL_WAYS}")
        kept = copy.deepcopy((one, other))
        for _ in range(3):
            self.assertEqual(open_places(one, "abc"), [0, 1, 2, 3, 4, 5])
            self.assertEqual(open_places(other, "abc"), [])
            self.assertEqual(barred_by(one, [None], "abc"), [None] * 6)
            self.assertEqual(barred_by(other, [None], "abc"), [("keep", 0)] * 6)
            self.assertIs(is_setting(one, [3]), True)
            self.assertIs(is_setting(other, [3]), False)
        self.assertEqual((one, other), kept)


if __name__ == "__main__":
    unittest.main()
