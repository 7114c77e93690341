import itertools
import random
import string
import unittest

from labelplace.drawing import drawn, read_back
from labelplace.errors import LabelError, NoCell, NoDeed, NoDrawing, NoName, NoPlan, NotTwo, TooMany, Twice
from labelplace.plans import read_plan
from told import roomy_plan, settings_of, some_plan, some_setting, told_back, told_cells, told_drawing


def tiny_plan(chance):
    sheet = (chance.randint(1, 5), chance.randint(1, 4))
    return some_plan(chance, sheet=sheet, points=3, kept=2, side=2, places=(1, 4), letters=(1, 3), figures=1)


class Held(unittest.TestCase):
    def hold_drawn(self, plan, setting):
        handed = list(setting)
        text = drawn(plan, setting)
        self.assertIs(type(text), str)
        self.assertEqual(text, told_drawing(plan, handed), (plan, handed))
        self.assertEqual(setting, handed)
        return text

    def hold_back(self, plan, setting):
        text = self.hold_drawn(plan, setting)
        told = read_back(plan, text)
        self.assertIs(type(told), list)
        self.assertEqual(told, told_back(plan, setting), (plan, setting))
        self.assertEqual(drawn(plan, told), text)
        return text

    def refused(self, plan, text):
        with self.assertRaises(NoDrawing, msg=(plan, text)) as caught:
            read_back(plan, text)
        self.assertIsInstance(caught.exception, LabelError)
        self.assertIsInstance(caught.exception, ValueError)
        for other in (NoPlan, NotTwo, Twice, NoName, NoCell, TooMany, NoDeed):
            self.assertNotIsInstance(caught.exception, other)


class Drawn(Held):
    def test_written_out(self):
        plan = read_plan("\n".join((
            "sheet 8 4", "keep 6 0 2 2", "keep 7 1 1 3", "point abc 2 1 9 right:1 left:1 up:1",
            "point de 6 1 9 left:2 down:2", "point f 0 3 9 right:1 up:1",
        )))
        self.assertEqual(drawn(plan, [0, 1, None]), "......##\n..AaaaB#\n......b#\nC.....b#")
        self.assertEqual(drawn(plan, [None, 0, 1]), "......##\n..A.bbB#\nc......#\nC......#")
        self.assertEqual(drawn(plan, [None, None, None]), "......##\n..A...B#\n.......#\nC......#")

    def test_one_cell(self):
        self.assertEqual(drawn(read_plan("sheet 1 1"), []), ".")
        self.assertEqual(drawn(read_plan("sheet 1 1\nkeep 0 0 1 1"), []), "#")
        self.assertEqual(drawn(read_plan("sheet 1 1\npoint a 0 0 1 up:1"), [None]), "A")
        self.assertEqual(drawn(read_plan("sheet 1 1\nkeep 0 0 1 1\npoint a 0 0 1 up:1"), [None]), "A")

    def test_one_line_and_one_column(self):
        self.assertEqual(drawn(read_plan("sheet 4 1\npoint ab 1 0 1 right:1"), [0]), ".Aaa")
        self.assertEqual(drawn(read_plan("sheet 1 4\npoint ab 0 1 1 down:1"), [0]), ".\nA\na\na")

    def test_every_sheet(self):
        chance = random.Random(121)
        for wide, high in itertools.product(range(1, 21), repeat=2):
            plan = roomy_plan(chance, sheet=(wide, high), points=12)
            text = self.hold_back(plan, some_setting(chance, plan))
            self.assertEqual([len(line) for line in text.split("\n")], [wide] * high)
            self.assertFalse(text.endswith("\n"))

    def test_many_kept_boxes(self):
        chance = random.Random(122)
        on_kept = 0
        for _ in range(120):
            plan = some_plan(chance, side=6)
            self.hold_back(plan, some_setting(chance, plan))
            on_kept += any(point[1:3] in told_cells(box) for point in plan[3] for box in plan[2])
        self.assertGreater(on_kept, 40)

    def test_twenty_six_points(self):
        chance = random.Random(123)
        for number in range(12):
            side = (8, 12, 20)[number % 3]
            cells = chance.sample(list(itertools.product(range(side), repeat=2)), 26)
            points = [(name, x, y, 1, (("right", 1), ("up", 1), ("left", 1))) for name, (x, y) in zip("zyxwvutsrqponmlkjihgfedcba", cells)]
            plan = (side, side, (), tuple(points))
            text = self.hold_back(plan, some_setting(chance, plan))
            self.assertEqual(sorted(sign for sign in text if sign.isupper()), list(string.ascii_uppercase))

    def test_the_last_letters(self):
        rows = [f"point {name} {k % 20} {k // 20} 1 up:1" for k, name in enumerate("bcdefghijklmnopqrstuvwxyz")]
        plan = read_plan("\n".join(["sheet 20 4"] + rows + ["point abc 10 3 1 right:1 left:1"]))
        text = drawn(plan, [None] * 25 + [1])
        self.assertEqual(text, "ABCDEFGHIJKLMNOPQRST\nUVWXY" + "." * 15 + "\n" + "." * 20 + "\n.......zzzZ.........")
        self.assertEqual(read_back(plan, text), [None] * 25 + [1])


class ReadBack(Held):
    def test_places_with_the_same_box(self):
        plan = read_plan("sheet 3 3\npoint a 1 1 9 down:1 up:1 above:1 below:1")
        for place, told in ((0, 0), (1, 1), (2, 1), (3, 0), (None, None)):
            self.assertEqual(read_back(plan, drawn(plan, [place])), [told])

    def test_the_first_of_its_places(self):
        chance = random.Random(124)
        others = 0
        for _ in range(150):
            plan = roomy_plan(chance, sheet=(7, 7), points=8, letters=(1, 2), places=(3, 6))
            setting = some_setting(chance, plan)
            text = self.hold_back(plan, setting)
            others += read_back(plan, text) != setting
        self.assertGreater(others, 20)

    def test_no_points(self):
        for text, told in (("sheet 1 1", "."), ("sheet 2 3\nkeep 1 1 1 2", "..\n.#\n.#")):
            self.assertEqual(read_back(read_plan(text), told), [])

    def test_what_is_told_is_the_askers_own(self):
        plan = read_plan("sheet 3 3\npoint a 1 1 9 down:1 up:1")
        told = read_back(plan, "...\n.A.\n.a.")
        told.clear()
        self.assertEqual(read_back(plan, "...\n.A.\n.a."), [0])
        self.assertIsNot(read_back(plan, "...\n.A.\n.a."), read_back(plan, "...\n.A.\n.a."))

    def test_every_setting_of_tiny_plans(self):
        chance = random.Random(125)
        for _ in range(60):
            plan = tiny_plan(chance)
            for setting in settings_of(plan):
                self.hold_back(plan, setting)


class NoDrawings(Held):
    plan = read_plan("\n".join((
        "sheet 7 4", "keep 5 0 2 2", "point abc 1 0 9 right:1 left:1 down:1", "point d 4 3 9 right:1 up:1 above:1",
        "point ef 6 2 9 left:2 down:3",
    )))

    def test_no_text(self):
        for plan in (self.plan, read_plan("sheet 1 1")):
            for thing in (None, 0, 1, True, False, [], ["."], (), (".",), {}, b".", ["."] * 4):
                self.refused(plan, thing)

    def test_no_signs(self):
        for plan in (self.plan, read_plan("sheet 1 1"), read_plan("sheet 1 2")):
            self.refused(plan, "")

    def test_the_drawings_that_others_are_made_of(self):
        self.assertEqual(self.hold_back(self.plan, [0, 0, 0]), ".Aaaa##\n.....##\n....ccC\n....Bb.")
        self.assertEqual(self.hold_back(self.plan, [2, 1, None]), ".A...##\n.a...##\n.a..b.C\n.a..B..")

    def test_a_sign_another_one(self):
        for setting in settings_of(self.plan):
            text = drawn(self.plan, setting)
            drawings = [drawn(self.plan, other) for other in settings_of(self.plan)]
            for at in range(len(text)):
                for sign in ".#ABCDabcdz \n":
                    other = text[:at] + sign + text[at + 1:]
                    if other not in drawings:
                        self.refused(self.plan, other)

    def test_lines_left_out_told_twice_and_changed_about(self):
        for setting in ([0, 0, 0], [2, 1, None], [None, 0, None], [None, None, None]):
            lines = drawn(self.plan, setting).split("\n")
            for at in range(len(lines)):
                self.refused(self.plan, "\n".join(lines[:at] + lines[at + 1:]))
                self.refused(self.plan, "\n".join(lines[:at + 1] + lines[at:]))
                self.refused(self.plan, "\n".join(lines[:at] + [lines[at] + "."] + lines[at + 1:]))
                self.refused(self.plan, "\n".join(lines[:at] + ["." + lines[at]] + lines[at + 1:]))
                self.refused(self.plan, "\n".join(lines[:at] + [lines[at][:-1]] + lines[at + 1:]))
                self.refused(self.plan, "\n".join(lines[:at] + [lines[at][1:]] + lines[at + 1:]))
                self.refused(self.plan, "\n".join(lines[:at] + [""] + lines[at:]))
            self.refused(self.plan, "\n".join(reversed(lines)))

    def test_line_feeds_ahead_and_behind(self):
        text = drawn(self.plan, [0, None, None])
        for other in (text + "\n", "\n" + text, text + " ", " " + text, text + "\n.......", text.replace("\n", "/"),
                      text.replace("\n", ""), text.replace("\n", "\r\n"), text.replace("\n", " "), text + "."):
            self.refused(self.plan, other)

    def test_small_letters_that_are_no_places_box(self):
        plan = read_plan("sheet 5 3\npoint ab 2 1 9 right:1 left:1")
        self.assertEqual(read_back(plan, ".....\n..Aaa\n....."), [0])
        for text in (".....\n..Aa.\n.....", ".....\n..A.a\n.....", ".....\naaAaa\n.....", "..aa.\n..A..\n.....",
                     ".....\n.aAa.\n.....", "a....\n..Aaa\n.....", ".....\n..Aaa\n..aa.", ".....\n..A..\n...aa",
                     "aaaaa\naaaaa\naaaaa", ".....\n.aA..\n.....", "....a\n..A.a\n....."):
            self.refused(plan, text)

    def test_a_box_that_is_not_open(self):
        kept = read_plan("sheet 5 1\nkeep 4 0 1 1\npoint ab 2 0 9 right:1 left:1")
        self.assertEqual(read_back(kept, "aaA.#"), [1])
        self.refused(kept, "..Aaa")
        self.refused(kept, "..Aa#")
        beside = read_plan("sheet 5 1\npoint ab 2 0 9 right:1 left:1\npoint c 4 0 9 left:1")
        self.assertEqual(read_back(beside, "aaAbB"), [1, 0])
        self.refused(beside, "..Aaa")
        self.refused(beside, "..AaB")
        outside = read_plan("sheet 4 1\npoint ab 2 0 9 right:1 left:1")
        self.assertEqual(read_back(outside, "aaA."), [1])
        self.refused(outside, "..Aa")
        self.refused(outside, "..Aaa")

    def test_boxes_that_meet(self):
        plan = read_plan("sheet 6 1\npoint abc 0 0 9 right:1\npoint de 5 0 9 left:1")
        self.assertEqual(read_back(plan, "Aaaa.B"), [0, None])
        self.assertEqual(read_back(plan, "A..bbB"), [None, 0])
        for text in ("AaaabB", "AaabbB", "Aaa.bB", "A...bB"):
            self.refused(plan, text)

    def test_points_that_stand_otherwise(self):
        plan = read_plan("sheet 5 1\npoint ab 0 0 9 right:1\npoint c 4 0 9 left:1")
        self.assertEqual(read_back(plan, "Aaa.B"), [0, None])
        for text in (".aa.B", "aaa.B", "Aaa.b", "Baa.A", "Bbb.A", "Aaa..", "AaaAB", "Aaa#B", "Aaa B", "AaaCB", "AaacB", "Aaa.C"):
            self.refused(plan, text)

    def test_another_plans_drawing(self):
        chance = random.Random(126)
        for _ in range(60):
            one, other = tiny_plan(chance), tiny_plan(chance)
            drawings = {told_drawing(other, setting) for setting in settings_of(other)}
            text = drawn(one, some_setting(chance, one))
            if text not in drawings:
                self.refused(other, text)

    def test_some_signs_of_tiny_drawings(self):
        chance = random.Random(127)
        for _ in range(60):
            plan = tiny_plan(chance)
            drawings = {told_drawing(plan, setting): told_back(plan, setting) for setting in settings_of(plan)}
            for text in drawings:
                signs = list(text)
                for _ in range(chance.randint(1, 3)):
                    signs[chance.randrange(len(signs))] = chance.choice(".#abcdABCD \n")
                other = "".join(signs)
                if other in drawings:
                    self.assertEqual(read_back(plan, other), drawings[other])
                else:
                    self.refused(plan, other)

    def test_all_texts_of_a_few_cells(self):
        plan = read_plan("sheet 4 1\nkeep 3 0 1 1\npoint a 1 0 9 right:1 left:1\npoint b 2 0 9 left:1 right:1")
        plans = [plan, read_plan("sheet 3 1\npoint a 0 0 9 right:1\npoint b 2 0 9 left:1 right:1")]
        for plan in plans:
            drawings = {told_drawing(plan, setting): told_back(plan, setting) for setting in settings_of(plan)}
            for size in range(plan[0] + 2):
                for signs in itertools.product(".#ABab\n", repeat=size):
                    text = "".join(signs)
                    if text in drawings:
                        self.assertEqual(read_back(plan, text), drawings[text])
                    else:
                        with self.assertRaises(NoDrawing):
                            read_back(plan, text)


if __name__ == "__main__":
    unittest.main()
