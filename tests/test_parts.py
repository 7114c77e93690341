import itertools
import random
import unittest

from labelplace.parts import neighbours, parts
from labelplace.plans import read_plan
from told import names_of, open_cells, roomy_plan, some_plan, told_neighbours, told_parts


def plans(seed, count):
    chance = random.Random(seed)
    for number in range(count):
        yield some_plan(chance, points=20, kept=5, side=4) if number % 3 == 0 else roomy_plan(chance)
        sheet = (chance.randint(5, 16), chance.randint(5, 16))
        yield roomy_plan(chance, sheet=sheet, letters=(1, 3), places=(1, 4))


class Neighbours(unittest.TestCase):
    def test_many_plans(self):
        pairs = 0
        for plan in plans(22, 60):
            near = told_neighbours(plan)
            for name in near:
                told = neighbours(plan, name)
                self.assertIs(type(told), list)
                self.assertEqual(told, near[name], (plan, name))
                self.assertNotIn(name, told)
                self.assertEqual(told, [other for other in names_of(plan) if other in told])
                for other in told:
                    self.assertIn(name, neighbours(plan, other))
                pairs += len(told)
                told.clear()
                self.assertEqual(neighbours(plan, name), near[name])
        self.assertGreater(pairs, 500)

    def test_written_out(self):
        plan = read_plan("\n".join((
            "sheet 12 2", "point abc 0 0 1 right:1 left:1", "point de 5 0 1 right:1 left:1", "point f 8 0 1 left:1",
            "point g 11 1 1 left:1",
        )))
        self.assertEqual(neighbours(plan, "abc"), ["de"])
        self.assertEqual(neighbours(plan, "de"), ["abc", "f"])
        self.assertEqual(neighbours(plan, "f"), ["de"])
        self.assertEqual(neighbours(plan, "g"), [])
        self.assertEqual(parts(plan), [["abc", "de", "f"], ["g"]])

    def test_a_place_that_is_not_open_makes_no_neighbour(self):
        near = read_plan("sheet 6 1\npoint abc 0 0 1 right:1\npoint de 5 0 1 left:1")
        self.assertEqual((neighbours(near, "abc"), parts(near)), (["de"], [["abc", "de"]]))
        barred = read_plan("sheet 6 1\nkeep 4 0 1 1\npoint abc 0 0 1 right:1\npoint de 5 0 1 left:1")
        self.assertEqual((neighbours(barred, "abc"), parts(barred)), ([], [["abc"], ["de"]]))

    def test_places_side_by_side_make_no_neighbour(self):
        plan = read_plan("sheet 7 1\npoint abc 0 0 1 right:1\npoint de 6 0 1 left:1")
        self.assertEqual((neighbours(plan, "abc"), neighbours(plan, "de")), ([], []))

    def test_no_neighbour_of_itself(self):
        plan = read_plan("sheet 3 3\npoint a 1 1 1 up:1 above:1")
        self.assertEqual(neighbours(plan, "a"), [])


class Parts(unittest.TestCase):
    def hold(self, plan):
        told = parts(plan)
        self.assertIs(type(told), list)
        self.assertEqual([type(part) for part in told], [list] * len(told))
        self.assertEqual(told, told_parts(plan), plan)
        self.assertEqual(sorted(sum(told, [])), sorted(names_of(plan)))
        self.assertNotIn([], told)
        turn = names_of(plan).index
        for part in told:
            self.assertEqual(part, sorted(part, key=turn))
        self.assertEqual([part[0] for part in told], sorted([part[0] for part in told], key=turn))
        self.hold_apart(plan, told)
        sizes = [len(part) for part in told]
        for part in told:
            part.clear()
        told.append(["more"])
        self.assertEqual(parts(plan), told_parts(plan))
        return sizes

    def hold_apart(self, plan, told):
        cells = open_cells(plan)
        reach = [set().union(*[place for name in part for place in cells[name].values()]) for part in told]
        for one, other in itertools.combinations(reach, 2):
            self.assertFalse(one & other)

    def test_many_plans(self):
        sizes = []
        for plan in plans(23, 150):
            sizes.extend(self.hold(plan))
        self.assertGreater(sizes.count(1), 100)
        self.assertGreater(len([size for size in sizes if size > 4]), 30)

    def test_no_point(self):
        self.assertEqual(parts(read_plan("sheet 1 1")), [])

    def test_a_point_without_open_places_is_a_part(self):
        self.assertEqual(parts(read_plan("sheet 1 1\npoint a 0 0 1 up:1")), [["a"]])

    def test_far_ones_hang_together_by_those_between(self):
        xs = list(range(0, 20, 2))
        names = "jaibhcgdfe"
        for order in (xs, xs[::-1], xs[1::2] + xs[::2]):
            rows = [f"point {names[x // 2]} {x} 0 1 left:1 right:1" for x in order]
            told = [names[x // 2] for x in order]
            self.assertEqual(parts(read_plan("\n".join(["sheet 20 1"] + rows))), [told])

    def test_parts_that_lie_in_one_another_in_turn(self):
        rows = [f"point {'abcd'[k]} {(0, 10, 2, 12)[k]} 0 1 left:1 right:1" for k in range(4)]
        self.assertEqual(parts(read_plan("\n".join(["sheet 20 1"] + rows))), [["a", "c"], ["b", "d"]])

    def test_twenty_six_points(self):
        chance = random.Random(24)
        for _ in range(20):
            cells = chance.sample(list(itertools.product(range(20), range(20))), 26)
            places = (("right", 1), ("up", 1))
            points = [(name * 2, x, y, 1, places) for name, (x, y) in zip("zyxwvutsrqponmlkjihgfedcba", cells)]
            self.hold((20, 20, (), tuple(points)))


if __name__ == "__main__":
    unittest.main()
