import itertools
import random
import unittest

from labelplace.papers import Cases, End, Paper
from labelplace.parts import parts
from labelplace.plans import read_plan
from told import cost, left_open, names_of, roomy_plan, settings_of, some_setting, told_bounds, told_sum

SIXTY = 10 ** 60 - 1


def some_paper(chance, plan, names, ahead, ends=0.0):
    """A paper in which nothing but the loss can be wrong; it goes on to the last name, but for an End here and there."""
    unset = [name for name in names if name not in dict(ahead)]
    if not unset or chance.random() < ends:
        return End()
    name = chance.choice(unset)
    places = [None] + left_open(plan, name, ahead)
    chance.shuffle(places)
    return Cases(name, [(place, some_paper(chance, plan, names, ahead + [(name, place)], ends)) for place in places])


def least_end(plan, names, ahead, paper):
    """The least sum of all Ends of a paper made by some_paper."""
    if isinstance(paper, End):
        return told_sum(plan, names, ahead)
    return min(least_end(plan, names, ahead + [(paper.name, place)], other) for place, other in paper.cases)


def least_loss(plan, names, ahead):
    """The least that settings of the plan which have what is set ahead lose by these names."""
    turn = names_of(plan)
    told = []
    for setting in settings_of(plan):
        if all(setting[turn.index(name)] == place for name, place in ahead):
            told.append(sum(cost(plan, name, setting[turn.index(name)]) for name in names))
    return min(told)


def small_plan(chance):
    return roomy_plan(chance, sheet=(chance.randint(2, 6), chance.randint(1, 5)), points=4, kept=1, places=(1, 3))


def crowded_plan(chance):
    """A plan with names that get in one another's way and lose much where they stay out."""
    plan = roomy_plan(chance, sheet=(5, 3), points=6, kept=0, places=(1, 3), letters=(1, 2))
    return plan[:3] + (tuple((name, x, y, loss + 100, places) for name, x, y, loss, places in plan[3]),)


def some_names(chance, plan):
    return chance.sample(names_of(plan), chance.randint(0, len(plan[3])))


def some_ahead(chance, plan, names):
    setting = some_setting(chance, plan)
    set_ahead = chance.sample(names, chance.randint(0, len(names)))
    return [(name, setting[names_of(plan).index(name)]) for name in set_ahead]


class Held(unittest.TestCase):
    def hold(self, paper, plan, names, loss, ahead, told):
        handed = (list(names), list(ahead))
        self.assertIs(paper.bounds(plan, names, loss, ahead), told, (plan, names, loss, ahead))
        self.assertIs(told_bounds(plan, names, loss, ahead, paper), told)
        self.assertEqual((names, ahead), handed)

    def hold_least(self, paper, plan, names, ahead, least):
        """Bounds with just the losses up to this one."""
        for loss in {0, max(0, least - 1), least}:
            self.hold(paper, plan, names, loss, ahead, True)
        for loss in (least + 1, least + 2, least * 2 + 1, SIXTY * 60):
            self.hold(paper, plan, names, loss, ahead, False)


class Made(unittest.TestCase):
    def test_each_is_a_paper(self):
        self.assertIsInstance(End(), Paper)
        self.assertIsInstance(Cases("ulm", []), Paper)
        self.assertNotIsInstance(End(), Cases)
        self.assertNotIsInstance(Cases("ulm", []), End)

    def test_fields(self):
        paper = End()
        made = Cases("ulm", [(None, paper), (3, paper)])
        self.assertEqual(made.name, "ulm")
        self.assertEqual(made.cases, [(None, paper), (3, paper)])
        self.assertIs(type(made.cases), list)

    def test_whatever_it_would_show(self):
        for name in ("", "ulm", "Ulm!", "a name\nof lines", "x" * 1000):
            for places in ([], [None, None], [-1], [7, 7, 10 ** 60]):
                made = Cases(name, [(place, End()) for place in places])
                self.assertEqual((made.name, [place for place, _ in made.cases]), (name, places))

    def test_the_list_handed_in_is_copied(self):
        plan = read_plan("sheet 9 9\npoint a 4 4 5 up:1 down:2")
        cases = [(None, End()), (0, End()), (1, End())]
        kept = list(cases)
        made = Cases("a", cases)
        self.assertIsNot(made.cases, cases)
        cases.pop()
        self.assertEqual(made.cases, kept)
        self.assertIs(made.bounds(plan, ["a"], 1, []), True)
        cases.clear()
        self.assertIs(made.bounds(plan, ["a"], 1, []), True)

    def test_two_made_of_one_list_are_apart(self):
        cases = [(None, End())]
        one, other = Cases("a", cases), Cases("b", cases)
        self.assertIsNot(one.cases, other.cases)


class EndBounds(Held):
    def test_written_out(self):
        plan = read_plan("\n".join((
            "sheet 8 1", "point abc 0 0 50 right:7 left:1", "point de 5 0 40 left:6 right:9", "point f 7 0 3 left:20",
        )))
        names = ["abc", "de", "f"]
        self.hold_least(End(), plan, names, [], 7 + 6 + 3)
        self.hold_least(End(), plan, names, [("abc", 0)], 7 + 40 + 3)
        self.hold_least(End(), plan, names, [("de", 0)], 50 + 6 + 3)
        self.hold_least(End(), plan, names, [("abc", None)], 50 + 6 + 3)
        self.hold_least(End(), plan, names, [("f", 0)], 7 + 6 + 20)
        self.hold_least(End(), plan, names, [("f", None), ("de", None)], 7 + 40 + 3)
        self.hold_least(End(), plan, names, [("abc", None), ("de", 0), ("f", 0)], 50 + 6 + 20)
        self.hold_least(End(), plan, ["de"], [], 6)
        self.hold_least(End(), plan, ["f", "abc"], [("abc", 0)], 10)

    def test_a_place_that_is_not_open_is_no_cheap_one(self):
        plan = read_plan("sheet 9 1\nkeep 8 0 1 1\npoint abc 5 0 50 right:0 left:9")
        self.hold_least(End(), plan, ["abc"], [], 9)

    def test_all_open_places_meet_what_is_set_ahead(self):
        plan = read_plan("sheet 5 3\npoint a 2 1 50 right:1 left:2\npoint bcd 2 0 9 left:0 right:3 up:0\n"
                         "point e 1 0 8 below:1\npoint f 3 0 7 below:1")
        self.hold_least(End(), plan, ["a", "e", "f"], [], 1 + 1 + 1)
        self.hold_least(End(), plan, ["a", "e", "f"], [("e", 0)], 1 + 1 + 1)
        self.hold_least(End(), plan, ["a", "e", "f"], [("f", 0)], 2 + 1 + 1)
        self.hold_least(End(), plan, ["a", "e", "f"], [("e", 0), ("f", 0)], 50 + 1 + 1)
        self.hold_least(End(), plan, ["bcd"], [], 9)

    def test_no_names(self):
        self.hold(End(), read_plan("sheet 1 1"), [], 0, [], True)
        self.hold(End(), read_plan("sheet 1 1"), [], 1, [], False)
        self.hold(End(), read_plan("sheet 3 3\npoint a 1 1 5 up:5"), [], 1, [], False)

    def test_losses_of_sixty_figures(self):
        rows = [f"point {name} 4 {k} {SIXTY} right:{SIXTY}" for k, name in enumerate("abcdefghi")]
        plan = read_plan("\n".join(["sheet 9 9"] + rows))
        self.hold_least(End(), plan, names_of(plan), [], 9 * SIXTY)
        self.hold_least(End(), plan, names_of(plan), [("a", 0), ("c", None)], 9 * SIXTY)

    def test_many_plans(self):
        chance = random.Random(25)
        for number in range(400):
            plan = roomy_plan(chance, sheet=(8, 8), figures=(2, 60)[number % 2])
            names = some_names(chance, plan)
            ahead = some_ahead(chance, plan, names)
            self.hold_least(End(), plan, names, ahead, told_sum(plan, names, ahead))

    def test_parts(self):
        chance = random.Random(26)
        for _ in range(60):
            plan = roomy_plan(chance, sheet=(9, 9))
            for part in parts(plan):
                self.hold_least(End(), plan, part, [], told_sum(plan, part, []))


class CasesBound(Held):
    plan = read_plan("\n".join((
        "sheet 9 3", "keep 8 1 1 1", "point abc 4 1 50 right:7 left:5 up:1 above:9", "point de 0 1 40 right:6",
        "point f 1 0 30 below:4 right:8",
    )))
    names = ["abc", "de", "f"]

    def cases(self, name, places, paper=None):
        return Cases(name, [(place, paper or End()) for place in places])

    def refused(self, paper, ahead=(), names=None):
        self.hold(paper, self.plan, names or self.names, 0, list(ahead), False)

    def bounded(self, paper, ahead=(), names=None):
        self.hold(paper, self.plan, names or self.names, 0, list(ahead), True)

    def test_its_open_places(self):
        self.bounded(self.cases("abc", [None, 0, 1, 3]), [("de", None)])
        self.bounded(self.cases("de", [None, 0]))
        self.bounded(self.cases("f", [None, 0, 1]))

    def test_the_cases_in_any_turn(self):
        for places in itertools.permutations([None, 0, 1, 3]):
            self.bounded(self.cases("abc", places))

    def test_a_name_that_is_none_of_the_names(self):
        self.bounded(self.cases("de", [None, 0]), names=["abc", "de"])
        self.refused(self.cases("de", [None, 0]), names=["abc", "f"])
        for name in ("", "ulm", "ab", "abc ", "ABC", "a\nb", "x" * 1000):
            for places in ([], [None], [None, 0], [None, 0, 1, 3]):
                self.refused(self.cases(name, places))

    def test_a_name_that_is_set_already(self):
        for place in (None, 0, 1, 3):
            for places in ([None, 0, 1, 3], [None], [place]):
                self.refused(self.cases("abc", places), [("abc", place)])
        self.refused(self.cases("de", [None, 0], self.cases("de", [None, 0])))
        self.refused(self.cases("de", [None, 0], self.cases("de", [None])))

    def test_a_case_less(self):
        for places in ([0, 1, 3], [None, 1, 3], [None, 0, 3], [None, 0, 1], [None], [0], []):
            self.refused(self.cases("abc", places))

    def test_a_case_twice(self):
        for twice in (None, 0, 1, 3):
            self.refused(self.cases("abc", [None, 0, 1, 3, twice]))
            for instead in range(4):
                places = [None, 0, 1, 3]
                places[instead] = twice
                if len(set(places)) < 4:
                    self.refused(self.cases("abc", places))

    def test_a_case_more(self):
        for more in (2, 4, 5, -1, -2, 10 ** 60):
            self.refused(self.cases("abc", [None, 0, 1, 3, more]))
            self.refused(self.cases("abc", [more, None, 0, 1, 3]))
            self.refused(self.cases("abc", [None, 0, 1, more]))
            self.refused(self.cases("abc", [None, 0, more, 3]))

    def test_minus_one_in_the_place_of_none(self):
        self.refused(self.cases("abc", [-1, 0, 1, 3]))
        self.refused(self.cases("de", [-1, 0]))

    def test_a_place_that_meets_a_box_set_ahead(self):
        self.bounded(self.cases("f", [None, 1]), [("de", 0)])
        self.refused(self.cases("f", [None, 0, 1]), [("de", 0)])
        self.bounded(self.cases("f", [None, 0, 1]), [("de", None)])
        self.refused(self.cases("f", [None, 1]), [("de", None)])
        self.bounded(self.cases("de", [None]), [("f", 0)])
        self.refused(self.cases("de", [None, 0]), [("f", 0)])
        self.bounded(self.cases("de", [None, 0]), [("f", 1)])
        self.bounded(self.cases("de", [None]), [("abc", 1)])
        self.refused(self.cases("de", [None, 0]), [("abc", 1)])

    def test_names_that_are_not_bounded_bar_nothing(self):
        self.bounded(self.cases("f", [None, 0, 1]), names=["f"])
        self.bounded(self.cases("de", [None, 0]), names=["de"])

    def test_cases_set_further_cases_places(self):
        far = Cases("f", [
            (None, self.cases("de", [None, 0])),
            (0, self.cases("de", [None])),
            (1, self.cases("de", [0, None])),
        ])
        self.bounded(far)
        self.hold_least(far, self.plan, ["f", "de"], [], 8 + 6)
        self.hold_least(far, self.plan, self.names, [], 8 + 6 + 7)
        for number, wrong in ((0, [None]), (1, [None, 0]), (2, [None])):
            cases = list(far.cases)
            cases[number] = (cases[number][0], self.cases("de", wrong))
            self.refused(Cases("f", cases))

    def test_one_wrong_end_some_cases_deep(self):
        chance = random.Random(27)
        for _ in range(40):
            paper = some_paper(chance, self.plan, self.names, [])
            self.bounded(paper)
            deep = paper
            while not isinstance(deep.cases[-1][1], End):
                deep = deep.cases[-1][1]
            for wrong in (Cases("abc", []), Cases("f", [(None, End())]), Cases("ulm", [(None, End())])):
                deep.cases[-1] = (deep.cases[-1][0], wrong)
                self.refused(paper)
            deep.cases[-1] = (deep.cases[-1][0], End())
            self.bounded(paper)

    def test_papers_that_go_to_the_last_name(self):
        chance = random.Random(28)
        for _ in range(150):
            plan = small_plan(chance)
            names = some_names(chance, plan)
            ahead = some_ahead(chance, plan, names)
            paper = some_paper(chance, plan, names, ahead)
            unset = [name for name in names if name not in dict(ahead)]
            self.hold_least(paper, plan, names, ahead, least_end(plan, names, ahead, paper))
            self.assertEqual(isinstance(paper, End), unset == [])

    def test_whole_papers_come_to_the_least_loss_and_others_never_above(self):
        chance = random.Random(29)
        below = 0
        for number in range(400):
            plan = crowded_plan(chance)
            names = some_names(chance, plan)
            ahead = some_ahead(chance, plan, names) if number % 4 < 2 else []
            least = least_loss(plan, names, ahead)
            whole = some_paper(chance, plan, names, ahead)
            self.hold_least(whole, plan, names, ahead, least)
            other = some_paper(chance, plan, names, ahead, 0.5)
            ends = least_end(plan, names, ahead, other)
            self.assertLessEqual(ends, least)
            self.hold_least(other, plan, names, ahead, ends)
            below += ends < least
        self.assertGreater(below, 5)

    def test_as_deep_as_there_are_names(self):
        letters = "abcdefghijklmnopqrstuvwxyz"
        rows = [f"point {name} {k % 20} {k // 20} 3 up:1" for k, name in enumerate(letters)]
        plan = read_plan("\n".join(["sheet 20 2", "keep 0 0 20 2"] + rows))
        paper = End()
        for name in letters:
            paper = Cases(name, [(None, paper)])
        self.hold_least(paper, plan, list(letters), [], 26 * 3)
        self.hold_least(paper, plan, list(reversed(letters)), [], 26 * 3)
        self.hold(paper, plan, list(letters[:25]), 0, [], False)
        for name in letters[:24]:
            paper = Cases(name, [(None, paper)])
        self.hold(paper, plan, list(letters), 0, [], False)

    def test_asked_again_alike(self):
        paper = self.cases("f", [None, 0, 1])
        for _ in range(3):
            self.bounded(paper)
            self.refused(paper, [("de", 0)])
            self.bounded(paper, [("abc", 0)])
        self.assertEqual([place for place, _ in paper.cases], [None, 0, 1])


if __name__ == "__main__":
    unittest.main()
