import random
import string
import unittest

from labelplace.errors import LabelError, NoPlan
from labelplace.plans import read_plan, show_plan
from told import WAYS, some_plan

SIXTY = "9" * 60

TEXT = """sheet 12 8
keep 0 0 3 2
keep 1 1 3 2
point ulm 2 1 7 right:0 left:10
point bonn 11 7 0 above:3"""
PLAN = (
    12, 8,
    ((0, 0, 3, 2), (1, 1, 3, 2)),
    (
        ("ulm", 2, 1, 7, (("right", 0), ("left", 10))),
        ("bonn", 11, 7, 0, (("above", 3),)),
    ),
)

ALL_WAYS = " ".join(f"{way}:1" for way in WAYS)
TWENTY_KEPT = "\n".join(["sheet 20 20"] + ["keep 0 0 20 20"] * 20)
MANY_POINTS = "\n".join(
    ["sheet 20 20"] + [f"point {name} {k % 20} {k // 20} 1 right:1" for k, name in enumerate(string.ascii_lowercase)]
)


def kinds_of(value):
    if type(value) is tuple:
        return [kinds_of(part) for part in value]
    return type(value)


class ReadAndShown(unittest.TestCase):
    def hold(self, text, plan):
        read = read_plan(text)
        self.assertEqual(read, plan)
        self.assertIs(type(read), tuple)
        self.assertEqual(kinds_of(read), kinds_of(plan))
        self.assertEqual(show_plan(plan), text)
        self.assertEqual(read_plan(show_plan(read)), plan)

    def test_written_out(self):
        self.hold(TEXT, PLAN)

    def test_smallest_and_largest_sheet(self):
        self.hold("sheet 1 1", (1, 1, (), ()))
        self.hold("sheet 20 20", (20, 20, (), ()))
        self.hold("sheet 1 20", (1, 20, (), ()))
        self.hold("sheet 20 1", (20, 1, (), ()))

    def test_no_kept_box_and_twenty(self):
        self.hold("sheet 4 4\npoint a 0 0 1 right:1", (4, 4, (), (("a", 0, 0, 1, (("right", 1),)),)))
        self.hold(TWENTY_KEPT, (20, 20, ((0, 0, 20, 20),) * 20, ()))

    def test_no_point_and_twenty_six(self):
        self.hold("sheet 3 2\nkeep 2 1 1 1", (3, 2, ((2, 1, 1, 1),), ()))
        plan = read_plan(MANY_POINTS)
        self.assertEqual([point[0] for point in plan[3]], list(string.ascii_lowercase))
        self.hold(MANY_POINTS, plan)

    def test_one_to_six_places(self):
        for count in range(1, 7):
            places = tuple((way, k) for k, way in enumerate(WAYS[:count]))
            told = " ".join(f"{way}:{price}" for way, price in places)
            self.hold(f"sheet 9 9\npoint a 4 5 6 {told}", (9, 9, (), (("a", 4, 5, 6, places),)))

    def test_places_keep_their_turn(self):
        plan = (9, 9, (), (("a", 4, 5, 6, (("up", 1), ("right", 2), ("down", 0))),))
        self.hold("sheet 9 9\npoint a 4 5 6 up:1 right:2 down:0", plan)

    def test_names_of_one_and_eight_letters(self):
        for name in ("a", "z", "abcdefgh", "zzzzzzzz", "sheet", "keep", "point", "up"):
            self.hold(f"sheet 9 9\npoint {name} 4 5 6 up:1", (9, 9, (), ((name, 4, 5, 6, (("up", 1),)),)))

    def test_numbers_of_one_figure_and_of_sixty(self):
        for word in ("0", "9", "10", "1" + "0" * 59, SIXTY):
            plan = (9, 9, (), (("a", 4, 5, int(word), (("up", int(word)),)),))
            self.hold(f"sheet 9 9\npoint a 4 5 {word} up:{word}", plan)

    def test_points_at_the_sheets_corners_and_on_kept_cells(self):
        rows = ["sheet 7 5", "keep 0 0 7 5"]
        cells = [(0, 0), (6, 0), (0, 4), (6, 4)]
        rows += [f"point {name} {x} {y} 1 up:1" for name, (x, y) in zip("abcd", cells)]
        points = tuple((name, x, y, 1, (("up", 1),)) for name, (x, y) in zip("abcd", cells))
        self.hold("\n".join(rows), (7, 5, ((0, 0, 7, 5),), points))

    def test_many_plans(self):
        chance = random.Random(7)
        for _ in range(300):
            plan = some_plan(chance)
            self.hold(show_plan(plan), plan)


class Refused(unittest.TestCase):
    def refuse(self, text, line):
        with self.assertRaises(NoPlan) as caught:
            read_plan(text)
        self.assertIsInstance(caught.exception, LabelError)
        self.assertIs(type(caught.exception.line), int)
        self.assertEqual(caught.exception.line, line, text)

    def refuse_first(self, line):
        self.refuse(line, 0)
        self.refuse(line + "\nkeep 0 0 1 1\nnonsense", 0)

    def refuse_behind(self, ahead, line):
        """Refused at this line, whether it is the last one, more follows, or more that is wrong follows."""
        read_plan(ahead)
        number = ahead.count("\n") + 1
        self.refuse(f"{ahead}\n{line}", number)
        self.refuse(f"{ahead}\n{line}\npoint zz 0 0 1 up:1", number)
        self.refuse(f"{ahead}\n{line}\nnonsense", number)

    def refuse_kept(self, line):
        self.refuse_behind("sheet 9 7", line)
        self.refuse_behind("sheet 9 7\nkeep 0 0 1 1", line)

    def refuse_point(self, line):
        self.refuse_behind("sheet 9 7", line)
        self.refuse_behind("sheet 9 7\nkeep 0 0 1 1\npoint b 1 1 1 up:1", line)

    def test_the_text_without_signs(self):
        self.refuse("", 0)

    def test_what_is_no_text(self):
        for thing in (0, 7, None, [], ["sheet 1 1"], True, False, ("sheet 1 1",), {}, b"sheet 1 1", PLAN):
            self.refuse(thing, 0)

    def test_a_line_without_signs(self):
        self.refuse("\n", 0)
        self.refuse("\nsheet 1 1", 0)
        self.refuse("sheet 1 1\n", 1)
        self.refuse(TEXT + "\n", 5)
        rows = TEXT.split("\n")
        for number in range(len(rows) + 1):
            self.refuse("\n".join(rows[:number] + [""] + rows[number:]), number)

    def test_a_blank_too_many(self):
        rows = TEXT.split("\n")
        for number, row in enumerate(rows):
            words = row.split(" ")
            for place in range(len(words) + 1):
                wrong = " ".join(words[:place] + [""] + words[place:])
                self.refuse("\n".join(rows[:number] + [wrong] + rows[number + 1:]), number)

    def test_a_blank_too_few(self):
        rows = TEXT.split("\n")
        for number, row in enumerate(rows):
            words = row.split(" ")
            for place in range(1, len(words)):
                wrong = " ".join(words[:place - 1] + [words[place - 1] + words[place]] + words[place + 1:])
                try:
                    read = show_plan(read_plan("\n".join(rows[:number] + [wrong])))
                except NoPlan as refused:
                    self.assertEqual(refused.line, number, wrong)
                else:
                    self.fail(f"read {wrong!r} as {read!r}")

    def test_other_white_space_is_no_blank(self):
        for sign in ("\t", "\r", "\v", "\f", "\xa0"):
            self.refuse(f"sheet{sign}1 1", 0)
            self.refuse(f"sheet 1{sign}1", 0)
            self.refuse(f"sheet 1 1{sign}", 0)
            self.refuse(f"sheet 1 1{sign}\nkeep 0 0 1 1", 0)

    def test_an_unknown_first_word(self):
        for word in ("", " ", "Sheet", "sheets", "shee", "SHEET", "sheet:", "plan", "keep", "point"):
            self.refuse_first(f"{word} 9 7")
        for word in ("", " ", "Keep", "keeps", "kee", "KEEP", "sheet", "point", "0"):
            self.refuse_kept(f"{word} 0 0 1 1")
        for word in ("", " ", "Point", "points", "poin", "POINT", "sheet", "keep", "a"):
            self.refuse_point(f"{word} a 0 0 1 up:1")

    def test_words_too_few_or_too_many(self):
        for line in ("sheet", "sheet 9", "sheet 9 7 1", "sheet 9 7 sheet"):
            self.refuse_first(line)
        for line in ("keep", "keep 0", "keep 0 0", "keep 0 0 1", "keep 0 0 1 1 1", "keep 0 0 1 1 up:1"):
            self.refuse_kept(line)
        for line in ("point", "point a", "point a 0", "point a 0 0", "point a 0 0 1", "point a 0 0 up:1",
                     "point a 0 0 1 1 up:1", "point a 0 0 1 up:1 1", "point 0 0 1 up:1", "point a a 0 0 1 up:1"):
            self.refuse_point(line)

    def test_what_is_no_number(self):
        wrong = ["", "00", "01", "007", "+1", "-1", "-0", "1.0", "1e1", "1_0", "a", "1a", "a1", "0x1", "1:", "one",
                 "0" * 60, "1" + "0" * 60, "9" * 61, "1,0", "\u0661", "\u00b2", "\uff11"]
        for word in wrong:
            self.refuse_first(f"sheet {word} 7")
            self.refuse_first(f"sheet 9 {word}")
            for place in range(4):
                numbers = ["0", "0", "1", "1"]
                numbers[place] = word
                self.refuse_kept("keep " + " ".join(numbers))
            self.refuse_point(f"point a {word} 0 1 up:1")
            self.refuse_point(f"point a 0 {word} 1 up:1")
            self.refuse_point(f"point a 0 0 {word} up:1")
            self.refuse_point(f"point a 0 0 1 up:{word}")
            self.refuse_point(f"point a 0 0 1 left:1 up:{word}")

    def test_a_sheet_of_0_or_21(self):
        for word in ("0", "21", "100", SIXTY):
            self.refuse_first(f"sheet {word} 7")
            self.refuse_first(f"sheet 9 {word}")
            self.refuse_first(f"sheet {word} {word}")

    def test_a_first_line_that_is_no_sheet(self):
        self.refuse("keep 0 0 1 1\nsheet 9 7", 0)
        self.refuse("point a 0 0 1 up:1\nsheet 9 7", 0)

    def test_a_second_sheet_line(self):
        for line in ("sheet 9 7", "sheet 1 1", "sheet 20 20"):
            self.refuse_kept(line)
            self.refuse_point(line)

    def test_a_kept_box_behind_a_point(self):
        self.refuse_behind("sheet 9 7\npoint a 0 0 1 up:1", "keep 1 1 1 1")
        self.refuse_behind("sheet 9 7\nkeep 1 1 1 1\npoint a 0 0 1 up:1", "keep 1 1 1 1")

    def test_a_kept_box_that_does_not_lie_in_the_sheet(self):
        read_plan("sheet 9 7\nkeep 0 0 9 7\nkeep 8 6 1 1")
        for box in ("0 0 10 7", "0 0 9 8", "1 0 9 7", "0 1 9 7", "9 0 1 1", "0 7 1 1", "8 6 2 1", "8 6 1 2",
                    f"0 0 {SIXTY} 1", f"{SIXTY} 0 1 1", f"0 {SIXTY} 1 1", f"0 0 1 {SIXTY}"):
            self.refuse_kept(f"keep {box}")

    def test_a_kept_box_without_cells(self):
        for box in ("0 0 0 1", "0 0 1 0", "0 0 0 0", "9 7 0 0", "9 0 0 1"):
            self.refuse_kept(f"keep {box}")

    def test_a_21st_kept_box(self):
        self.refuse_behind(TWENTY_KEPT, "keep 0 0 1 1")
        self.assertEqual(len(read_plan(TWENTY_KEPT + "\npoint a 0 0 1 up:1")[2]), 20)

    def test_a_point_out_of_the_sheet(self):
        read_plan("sheet 9 7\npoint a 8 6 1 up:1")
        for cell in ("9 0", "0 7", "9 7", "8 7", "9 6", f"{SIXTY} 0", f"0 {SIXTY}"):
            self.refuse_point(f"point a {cell} 1 up:1")

    def test_a_point_in_a_taken_cell(self):
        ahead = "sheet 9 7\npoint a 3 4 1 up:1\npoint b 4 3 1 up:1"
        self.refuse_behind(ahead, "point c 3 4 1 up:1")
        self.refuse_behind(ahead, "point c 4 3 9 left:0 right:0")
        self.assertEqual(len(read_plan(ahead + "\npoint c 3 3 1 up:1\npoint d 4 4 1 up:1")[3]), 4)

    def test_a_name_that_is_there_already(self):
        ahead = "sheet 9 7\npoint ulm 3 4 1 up:1\npoint bonn 4 3 1 up:1"
        self.refuse_behind(ahead, "point ulm 5 5 1 up:1")
        self.refuse_behind(ahead, "point bonn 6 6 2 left:3")
        self.refuse_behind(ahead, "point ulm 3 4 1 up:1")
        self.assertEqual(len(read_plan(ahead + "\npoint ul 5 5 1 up:1\npoint ulmo 6 6 1 up:1")[3]), 4)

    def test_a_27th_point(self):
        self.refuse_behind(MANY_POINTS, "point aa 19 19 1 up:1")

    def test_what_is_no_name(self):
        for name in ("", "abcdefghi", "Ulm", "ulM", "ULM", "0", "a1", "1a", "a-b", "a_b", "a:b", "-", "up:1",
                     "\u00fc", "\u03b1", "\u00df", "\u00aa"):
            self.refuse_point(f"point {name} 0 0 1 up:1")

    def test_a_way_that_is_none(self):
        for way in ("", "Right", "RIGHT", "righ", "rights", "north", "r", "1", "over"):
            self.refuse_point(f"point a 0 0 1 {way}:1")
            self.refuse_point(f"point a 0 0 1 up:1 {way}:1")
            self.refuse_point(f"point a 0 0 1 {way}:1 up:1")

    def test_a_way_twice(self):
        for way in WAYS:
            self.refuse_point(f"point a 0 0 1 {way}:1 {way}:2")
            self.refuse_point(f"point a 0 0 1 {way}:1 {way}:1")
        self.refuse_point("point a 0 0 1 up:1 left:1 down:1 up:3")

    def test_seven_places_or_none(self):
        read_plan(f"sheet 9 7\npoint a 0 0 1 {ALL_WAYS}")
        for way in WAYS:
            self.refuse_point(f"point a 0 0 1 {ALL_WAYS} {way}:2")
        self.refuse_point("point a 0 0 1")
        self.refuse_point("point a 0 0 1 ")

    def test_what_is_no_place(self):
        for place in ("up", "up:", ":", ":1", "1:up", "up:1:", ":up:1", "up:1:1", "up::1", "up: 1", "up :1",
                      "up : 1", "u p:1", "up:1 1", "up;1", "up=1", "up1", "up:1,left:1", "::", "up:1:left:1"):
            self.refuse_point(f"point a 0 0 1 {place}")
            self.refuse_point(f"point a 0 0 1 left:1 {place}")
            self.refuse_point(f"point a 0 0 1 {place} left:1")

    def test_always_the_first_such_line(self):
        rows = TEXT.split("\n")
        wrong = ["sheet 0 0", "keep 0 0 99 1", "keep 0 0 0 1", "point ulm 0 0 01 up:1", "point ulm 0 0 1 up:1"]
        for number in range(len(rows)):
            self.refuse("\n".join(rows[:number] + wrong[number:]), number)
        for number in range(len(rows)):
            self.refuse("\n".join(rows[:number] + wrong[number:number + 1] + rows[number + 1:]), number)

    def test_a_refusal_changes_nothing_read_later(self):
        self.refuse(TEXT + "\npoint ulm 0 0 1 up:1", 5)
        self.assertEqual(read_plan(TEXT), PLAN)
        self.assertEqual(read_plan("sheet 9 7"), (9, 7, (), ()))


if __name__ == "__main__":
    unittest.main()
