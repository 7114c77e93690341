import itertools
import random
import unittest

from labelplace.losses import least
from labelplace.papers import Cases, End, Paper
from labelplace.plans import read_plan
from told import (
    WAYS, cost, names_of, place_cells, roomy_plan, settings_of, some_name, some_number, some_plan, told_bounds,
    told_least, told_loss, told_open, told_parts, told_setting,
)

SIXTY = 10 ** 60 - 1


def depth(paper):
    if isinstance(paper, End):
        return 0
    return 1 + max(depth(other) for _, other in paper.cases)


def size(paper):
    if isinstance(paper, End):
        return 1
    return 1 + sum(size(other) for _, other in paper.cases)


def crowded_plan(chance, figures=1, points=5):
    """A plan with points that lie close together in the middle, and names that lose much where they stay out."""
    cells = chance.sample(list(itertools.product(range(2, 6), range(1, 4))), points)
    told = []
    for name, (x, y) in zip(chance.sample(["a", "bb", "ccc", "dd", "eee", "f", "gg"], points), cells):
        ways = chance.sample(WAYS, chance.randint(2, 3))
        places = tuple((way, some_number(chance, figures)) for way in ways)
        told.append((name, x, y, some_number(chance, figures) + 10 ** figures, places))
    return (8, 5, (), tuple(told))


def fields_plan(chance, letters=(1, 4), figures=2, within=True):
    """18 by 18 cells, 26 points, at most three in a field of six by six; `within`: their boxes stay in their field."""
    cells = []
    for left, above in itertools.product((0, 6, 12), repeat=2):
        cells += chance.sample(list(itertools.product(range(left, left + 6), range(above, above + 6))), 3)
    cells.pop(chance.randrange(len(cells)))
    chance.shuffle(cells)
    points = {}
    for x, y in cells:
        name = some_name(chance, letters)
        while name in points:
            name = some_name(chance, letters)
        ways = chance.sample(WAYS, 6)
        if within:
            ways = [way for way in ways if stays(name, x, y, way)] or ways[:1]
        ways = ways[:chance.randint(1, 6)]
        places = tuple((way, some_number(chance, figures)) for way in ways)
        points[name] = (name, x, y, some_number(chance, figures) + 10 ** figures // 2, places)
    return (18, 18, (), tuple(points.values()))


def stays(name, x, y, way):
    cells = place_cells((name, x, y, 0, ((way, 0),)), 0)
    return all((cx // 6, cy // 6) == (x // 6, y // 6) for cx, cy in cells)


class Held(unittest.TestCase):
    def hold(self, plan):
        """All of [17] but that the loss is the least; the papers show that too, held against [15] another way."""
        kept = repr(plan)
        told = least(plan)
        self.assertEqual(repr(plan), kept)
        self.assertEqual([type(one) for one in (told,) + told], [tuple, list, int, list])
        setting, loss, papers = told
        self.assertEqual(len(setting), len(plan[3]))
        self.assertTrue(all(place is None or type(place) is int for place in setting))
        self.assertTrue(told_setting(plan, setting), (plan, setting))
        self.assertEqual(told_loss(plan, setting), loss)
        self.hold_papers(plan, dict(zip(names_of(plan), setting)), papers)
        return told

    def hold_papers(self, plan, chosen, papers):
        parts = told_parts(plan)
        self.assertEqual(len(papers), len(parts))
        for part, paper in zip(parts, papers):
            lost = sum(cost(plan, name, chosen[name]) for name in part)
            self.assertIsInstance(paper, Paper)
            self.assertIsInstance(paper, (Cases, End))
            self.assertTrue(told_bounds(plan, part, lost, [], paper), (plan, part))
            self.assertIs(paper.bounds(plan, part, lost, []), True)
            self.assertIs(paper.bounds(plan, part, lost + 1, []), False)
            self.assertLessEqual(depth(paper), len(part))

    def hold_least(self, plan):
        setting, loss, papers = self.hold(plan)
        self.assertEqual(loss, min(told_loss(plan, other) for other in settings_of(plan)), plan)
        return setting, loss, papers

    def hold_least_by_parts(self, plan):
        setting, loss, papers = self.hold(plan)
        self.assertEqual(loss, told_least(plan), plan)
        return setting, loss, papers


class Written(Held):
    def test_no_points(self):
        for text in ("sheet 1 1", "sheet 20 20", "sheet 3 4\nkeep 0 0 3 4"):
            self.assertEqual(least(read_plan(text)), ([], 0, []))

    def test_one_point_has_its_cheapest_open_place(self):
        plan = read_plan("sheet 9 9\nkeep 5 4 1 1\npoint a 4 4 50 right:1 left:7 up:3 down:9")
        self.assertEqual(self.hold_least(plan)[:2], ([2], 3))

    def test_a_name_stays_out_where_that_loses_less(self):
        plan = read_plan("sheet 9 9\npoint a 4 4 2 right:4 left:7 up:3 down:9")
        self.assertEqual(self.hold_least(plan)[:2], ([None], 2))

    def test_no_open_place(self):
        self.assertEqual(self.hold_least(read_plan("sheet 1 1\npoint a 0 0 7 up:0 left:0"))[:2], ([None], 7))
        plan = read_plan("sheet 8 1\nkeep 1 0 1 1\npoint ab 0 0 5 right:0 left:0\npoint c 7 0 9 left:1 up:0\npoint d 6 0 3 up:0")
        self.assertEqual(self.hold_least(plan)[:2], ([None, None, None], 17))

    def test_two_in_one_anothers_way(self):
        plan = read_plan("sheet 6 1\npoint abc 0 0 9 left:1 right:2\npoint de 5 0 7 left:3 right:4")
        self.assertEqual(self.hold_least(plan)[:2], ([1, None], 9))
        plan = read_plan("sheet 6 1\npoint abc 0 0 9 left:1 right:2\npoint de 5 0 20 left:3 right:4")
        self.assertEqual(self.hold_least(plan)[:2], ([None, 0], 12))

    def test_the_cheapest_one_is_not_taken_where_another_pays_for_it(self):
        plan = read_plan("\n".join((
            "sheet 5 2", "point a 0 0 90 right:1 below:5", "point b 2 0 90 left:3 right:30", "point c 4 0 90 left:2 below:60",
        )))
        self.assertEqual(self.hold_least(plan)[:2], ([1, 0, 0], 10))

    def test_nothing_is_lost(self):
        plan = read_plan("sheet 9 9\npoint a 4 4 0 right:0 left:0\npoint b 6 4 0 left:0 right:0")
        self.assertEqual(self.hold_least(plan)[1], 0)

    def test_the_least_sum_of_all_is_not_reached(self):
        rows = [f"point {name} {2 * k} 0 100 left:1 right:1" for k, name in enumerate("abcdefghij")]
        plan = read_plan("\n".join(["sheet 19 1"] + rows))
        setting, loss, papers = self.hold_least_by_parts(plan)
        self.assertEqual((loss, setting.count(None), len(papers)), (109, 1, 1))


class Against(Held):
    def test_small_plans(self):
        chance = random.Random(91)
        for _ in range(250):
            sheet = (chance.randint(1, 7), chance.randint(1, 6))
            self.hold_least(roomy_plan(chance, sheet=sheet, points=4, kept=2, places=(1, 6), letters=(1, 3)))

    def test_crowded_plans(self):
        chance = random.Random(92)
        above = deep = 0
        for number in range(300):
            plan = crowded_plan(chance, figures=(1, 2, 3)[number % 3], points=(5, 6)[number % 2])
            setting, loss, papers = self.hold_least(plan)
            cheapest = sum(min(cost(plan, point[0], place) for place in [None] + told_open(plan, point)) for point in plan[3])
            above += loss > cheapest
            deep += max(map(depth, papers), default=0) > 1
        self.assertGreater(above, 100)
        self.assertGreater(deep, 5)

    def test_prices_and_losses_of_sixty_figures(self):
        chance = random.Random(93)
        for _ in range(100):
            self.hold_least(some_plan(chance, sheet=(6, 5), points=4, kept=1, side=1, letters=(1, 3), figures=60))
            self.hold_least(crowded_plan(chance, figures=59, points=5))

    def test_all_of_sixty_nines(self):
        rows = [f"point {name} {2 * k} 0 {SIXTY} left:{SIXTY - 1} right:{SIXTY - 1}" for k, name in enumerate("abcde")]
        self.assertEqual(self.hold_least(read_plan("\n".join(["sheet 9 1"] + rows)))[1], 5 * SIXTY - 4)

    def test_a_difference_in_the_last_figure(self):
        for lower in range(6):
            prices = [SIXTY - (k == lower) for k in range(6)]
            places = " ".join(f"{way}:{price}" for way, price in zip(WAYS, prices))
            told = self.hold_least(read_plan(f"sheet 9 9\npoint ab 4 4 {SIXTY} {places}"))
            self.assertEqual(told[:2], ([lower], SIXTY - 1))

    def test_prices_of_nothing(self):
        chance = random.Random(94)
        for number in range(120):
            plan = crowded_plan(chance)
            points = [(name, x, y, number % 3, tuple((way, 0) for way, _ in places)) for name, x, y, _, places in plan[3]]
            self.hold_least(plan[:3] + (tuple(points),))

    def test_many_prices_alike(self):
        chance = random.Random(95)
        for _ in range(120):
            plan = crowded_plan(chance)
            points = []
            for name, x, y, _, places in plan[3]:
                points.append((name, x, y, chance.randint(1, 3), tuple((way, chance.randint(0, 2)) for way, _ in places)))
            self.hold_least(plan[:3] + (tuple(points),))

    def test_points_without_an_open_place(self):
        chance = random.Random(96)
        barred = 0
        for _ in range(80):
            plan = some_plan(chance, sheet=(6, 5), points=6, kept=6, side=3, places=(1, 2), letters=(1, 4), figures=2)
            barred += any(not told_open(plan, point) for point in plan[3])
            self.hold_least(plan)
        self.assertGreater(barred, 40)

    def test_one_part_of_several_points(self):
        chance = random.Random(97)
        for _ in range(40):
            names = chance.sample("abcdefghij", 7)
            rows = []
            for k, name in enumerate(names):
                places = [f"{way}:{chance.randrange(9)}" for way in chance.sample(["left", "right"], 2)]
                rows.append(f"point {name} {2 * k + 1} 0 {chance.randrange(20)} {' '.join(places)}")
            chance.shuffle(rows)
            plan = read_plan("\n".join(["sheet 15 1"] + rows))
            self.assertEqual(len(self.hold_least(plan)[2]), 1)

    def test_many_parts(self):
        chance = random.Random(98)
        for number in range(12):
            plan = fields_plan(chance, figures=(1, 2, 60)[number % 3])
            self.assertEqual(len(plan[3]), 26)
            papers = self.hold_least_by_parts(plan)[2]
            self.assertGreaterEqual(len(papers), 9)

    def test_fields_whose_names_reach_over_their_edges(self):
        chance = random.Random(99)
        sizes = []
        for number in range(12):
            plan = fields_plan(chance, letters=(1, 8), figures=(1, 2, 60)[number % 3], within=False)
            self.hold(plan)
            sizes.extend(map(len, told_parts(plan)))
        self.assertGreater(max(sizes), 9)

    def test_twenty_six_points_close_together(self):
        chance = random.Random(100)
        depths, sizes = [], []
        for number in range(12):
            side = (9, 11, 14, 20)[number % 4]
            cells = chance.sample(list(itertools.product(range(side), repeat=2)), 26)
            points = []
            for letter, (x, y) in zip("abcdefghijklmnopqrstuvwxyz", cells):
                places = tuple((way, chance.randrange(4)) for way in chance.sample(WAYS, chance.randint(4, 6)))
                points.append((letter * chance.randint(2, 5), x, y, chance.randrange(4, 20), places))
            papers = self.hold((side, side, (), tuple(points)))[2]
            depths.append(max(map(depth, papers)))
            sizes.append(sum(map(size, papers)))
        self.assertGreater(max(depths), 3)
        # Not promised, but papers that are to be gone through are best small ones.
        self.assertLess(max(sizes), 1000)


class Asked(Held):
    def test_again_behind_another_plan(self):
        chance = random.Random(101)
        plans = [crowded_plan(chance) for _ in range(30)]
        losses = [least(plan)[1] for plan in plans]
        for turn in (plans, plans[::-1]):
            self.assertEqual({plan: least(plan)[1] for plan in turn}, dict(zip(plans, losses)))

    def test_what_is_done_to_a_told_list_changes_nothing(self):
        chance = random.Random(102)
        for _ in range(30):
            plan = crowded_plan(chance)
            told = self.hold_least(plan)
            held = least(plan)
            kept = (list(held[0]), list(held[2]))
            told[0].clear()
            told[2].clear()
            told[0].append(99)
            told[2].append("more")
            self.assertEqual((held[0], held[2]), kept)
            again = self.hold_least(plan)
            self.assertEqual(again[1], held[1])
            self.assertEqual((held[0], held[2]), kept)

    def test_each_list_is_a_new_one(self):
        plan = read_plan("sheet 6 1\npoint abc 0 0 9 left:1 right:2\npoint de 5 0 7 left:3 right:4")
        one, other = least(plan), least(plan)
        self.assertIsNot(one[0], other[0])
        self.assertIsNot(one[2], other[2])
        self.assertEqual(least(read_plan("sheet 1 1"))[0], [])
        self.assertIsNot(least(read_plan("sheet 1 1"))[0], least(read_plan("sheet 1 1"))[2])


if __name__ == "__main__":
    unittest.main()
