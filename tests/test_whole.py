"""What the document promises over the whole program: [1], [2] and [3]."""

import os
import pathlib
import random
import subprocess
import sys
import unittest

from labelplace.board import Board
from labelplace.desk import Desk
from labelplace.drawing import drawn, read_back
from labelplace.losses import least
from labelplace.parts import parts
from labelplace.plans import read_plan, show_plan
from labelplace.settings import barred_by, box_of, is_setting, loss_of
from labelplace.twos import all_set
from told import (
    barred_cells, names_of, place_cells, roomy_plan, some_plan, told_bounds, told_box, told_chain, told_drawing, told_loss,
    told_parts,
)

HERE = pathlib.Path(__file__).resolve().parent

# Run in processes of their own, whose sets and dicts of texts lie otherwise each time.
ANSWERS = """
import random
from labelplace.board import Board
from labelplace.desk import Desk
from labelplace.losses import least
from labelplace.papers import Cases
from labelplace.twos import all_set
from told import roomy_plan

def shown(paper):
    return (paper.name, [(place, shown(other)) for place, other in paper.cases]) if isinstance(paper, Cases) else ()

chance = random.Random(145)
for _ in range(20):
    plan = roomy_plan(chance, places=(2, 2))
    setting, loss, papers = least(plan)
    print(setting, loss, [shown(paper) for paper in papers], all_set(plan))
    board = Board(plan)
    for point in plan[3]:
        print(board.drop(point[0]), board.setting())
desk = Desk()
for row in ("sheet 9 3", "put ab 4 1 9 left:1 right:1", "put c 6 1 9 left:1 right:1", "all", "draw", "why ab", "parts"):
    print(desk.say(row))
"""


def plans(seed, count):
    chance = random.Random(seed)
    for number in range(count):
        if number % 3 == 0:
            yield some_plan(chance, side=5)
        elif number % 3 == 1:
            yield roomy_plan(chance)
        else:
            yield roomy_plan(chance, places=(2, 2), letters=(1, 3))


def boxes(plan, setting):
    return [None if place is None else told_box(point, place) for point, place in zip(plan[3], setting)]


class Whole(unittest.TestCase):
    def hold_apart(self, plan, setting):
        """No two names have a cell in common, none lies on a point or a kept cell or out of the sheet."""
        seen = set(barred_cells(plan))
        for point, place in zip(plan[3], setting):
            if place is not None:
                cells = place_cells(point, place)
                self.assertFalse(cells & seen)
                self.assertTrue(all(0 <= x < plan[0] and 0 <= y < plan[1] for x, y in cells))
                seen |= cells

    def hold_drawing(self, plan, setting):
        text = drawn(plan, setting)
        self.assertEqual(text, told_drawing(plan, setting))
        back = read_back(plan, text)
        self.assertEqual(boxes(plan, back), boxes(plan, setting))
        self.assertEqual(drawn(plan, back), text)

    def test_a_text_read_its_least_setting_drawn_and_read_back(self):
        for made in plans(141, 90):
            text = show_plan(made)
            plan = read_plan(text)
            self.assertEqual((plan, show_plan(plan)), (made, text))
            setting, loss, papers = least(plan)
            self.assertIs(is_setting(plan, setting), True)
            self.assertEqual((loss_of(plan, setting), told_loss(plan, setting)), (loss, loss))
            self.hold_apart(plan, setting)
            self.hold_drawing(plan, setting)
            self.assertEqual(parts(plan), told_parts(plan))
            for part, paper in zip(parts(plan), papers):
                own = [point if point[0] in part else None for point in plan[3]]
                lost = sum(point[3] if place is None else point[4][place][1] for point, place in zip(own, setting) if point)
                self.assertTrue(told_bounds(plan, part, lost, [], paper))

    def test_what_bars_the_places_of_a_least_setting(self):
        for plan in plans(142, 60):
            setting = least(plan)[0]
            for point, place in zip(plan[3], setting):
                bars = barred_by(plan, setting, point[0])
                if place is not None:
                    self.assertIsNone(bars[place])
                    self.assertEqual(box_of(plan, point[0], place), told_box(point, place))
                free = [point[4][other][1] for other, bar in enumerate(bars) if bar is None]
                lost = point[3] if place is None else point[4][place][1]
                self.assertEqual(lost, min(free + [point[3]]))

    def test_two_places_each_all_set_or_a_chain(self):
        chance = random.Random(143)
        counts = {True: 0, False: 0}
        for _ in range(120):
            plan = roomy_plan(chance, sheet=(9, 9), points=9, places=(2, 2), letters=(1, 3))
            points = [(name, x, y, 1, tuple((way, 0) for way, _ in places)) for name, x, y, _, places in plan[3]]
            plan = plan[:3] + (tuple(points),)
            setting, chain = all_set(plan)
            # Where only staying out loses anything, all can be set just where nothing is lost.
            self.assertEqual(least(plan)[1] == 0, chain is None)
            counts[chain is None] += 1
            if chain is None:
                self.assertNotIn(None, setting)
                self.hold_apart(plan, setting)
                self.hold_drawing(plan, setting)
            else:
                self.assertTrue(told_chain(plan, chain))
        self.assertGreater(min(counts.values()), 20)

    def test_points_come_and_go(self):
        chance = random.Random(144)
        for plan in plans(144, 24):
            board = Board(plan)
            for _ in range(8):
                names = names_of(board.plan())
                if not names:
                    break
                before = dict(zip(names, board.setting()))
                name = chance.choice(names)
                cells = {point[1:3] for point in plan[3]}
                cell = (chance.randrange(plan[0]), chance.randrange(plan[1]))
                told = board.drop(name) if cell in cells else board.move(name, *cell)
                plan = board.plan()
                self.hold_apart(plan, board.setting())
                self.hold_drawing(plan, board.setting())
                self.assertEqual(loss_of(plan, board.setting()), least(plan)[1])
                for other, place in zip(names_of(plan), board.setting()):
                    if other not in told:
                        self.assertEqual(place, before[other])

    def test_a_desk_told_a_plans_lines(self):
        for plan in plans(146, 30):
            desk = Desk()
            for line in show_plan(plan).split("\n"):
                desk.say(line.replace("point ", "put "))
            setting = []
            for name, _, _, _, places in plan[3]:
                way = desk.say("place " + name)
                setting.append(None if way == "out" else [told for told, _ in places].index(way))
            self.assertEqual(desk.say("loss"), str(told_loss(plan, setting)))
            self.assertEqual(desk.say("loss"), str(least(plan)[1]))
            back = read_back(plan, desk.say("draw").replace("/", "\n"))
            self.assertEqual(boxes(plan, back), boxes(plan, setting))

    def test_nothing_hangs_on_chance(self):
        answers = []
        for seed in ("0", "1", "2026"):
            paths = os.pathsep.join([str(HERE.parent), str(HERE)])
            env = dict(os.environ, PYTHONPATH=paths, PYTHONHASHSEED=seed)
            done = subprocess.run([sys.executable, "-c", ANSWERS], env=env, capture_output=True, text=True, check=True)
            answers.append(done.stdout)
        self.assertGreater(answers[0].count("\n"), 40)
        self.assertEqual(answers, [answers[0]] * 3)


if __name__ == "__main__":
    unittest.main()
