import itertools
import random
import unittest

from labelplace.desk import Desk
from labelplace.errors import LabelError, NoCell, NoDeed, NoDrawing, NoName, NoPlan, NotTwo, TooMany, Twice
from labelplace.plans import show_plan
from told import (
    WAYS, names_of, point_named, settings_of, some_box, some_name, some_number, told_bars, told_chain, told_drawing,
    told_least, told_loss, told_open, told_parts, told_setting,
)

REFUSALS = [NoPlan, NotTwo, Twice, NoName, NoCell, TooMany, NoDrawing, NoDeed]
SIXTY = "9" * 60
ONE_CELL = (1, 1, (), ())


def point_words(point):
    """A point as the desk's row and the plan's text tell it."""
    return show_plan((1, 1, (), (point,))).split("\n")[1].split(" ", 1)[1]


def told_why(plan, setting, name):
    words = []
    for bar in told_bars(plan, setting, name):
        words.append("free" if bar is None else ":".join(map(str, bar)))
    return " ".join(words)


class Held(unittest.TestCase):
    def begin(self, *rows):
        """A desk, and its plan as far as it is known."""
        self.desk = Desk()
        self.known = ONE_CELL
        for row in rows:
            self.say(row)

    def ask(self, row):
        answer = self.desk.say(row)
        self.assertIs(type(answer), str)
        return answer

    def say(self, row):
        """Says a row that changes the board, which must be one, and holds all answers behind it."""
        words = row.split(" ")
        before, places = self.known, self.places()
        wide, high, kept, points = before
        if words[0] == "sheet":
            self.known = (int(words[1]), int(words[2]), (), ())
        elif words[0] == "keep":
            self.known = (wide, high, kept + (tuple(map(int, words[1:])),), points)
        elif words[0] == "put":
            told = [word.split(":") for word in words[5:]]
            point = (words[1], int(words[2]), int(words[3]), int(words[4]), tuple((way, int(price)) for way, price in told))
            self.known = (wide, high, kept, points + (point,))
        elif words[0] == "move":
            moved = (words[1], int(words[2]), int(words[3]))
            points = [moved + point[3:] if point[0] == words[1] else point for point in points]
            self.known = (wide, high, kept, tuple(points))
        else:
            self.known = (wide, high, kept, tuple(point for point in points if point[0] != words[1]))
        answer = self.ask(row)
        if words[0] in ("sheet", "keep"):
            self.assertEqual(answer, "ok")
        else:
            self.hold_names(before, places, answer)
        self.hold()
        return answer

    def hold_names(self, before, places, answer):
        told = answer.split(" ") if answer else []
        old = told_parts(before)
        anew = []
        for part in told_parts(self.known):
            same = part in old and all(self.look(before, name) == self.look(self.known, name) for name in part)
            anew += [] if same else part
        self.assertEqual(told, [name for name in names_of(self.known) if name in anew])
        for name, way in self.places().items():
            if name not in told:
                self.assertEqual(way, places[name])

    def look(self, plan, name):
        point = point_named(plan, name)
        return (point[1:3], told_open(plan, point))

    def places(self):
        return {name: self.ask("place " + name) for name in names_of(self.known)}

    def setting(self):
        setting = []
        for name, way in self.places().items():
            ways = [told for told, _ in point_named(self.known, name)[4]]
            setting.append(None if way == "out" else ways.index(way))
        return setting

    def state(self):
        return (self.ask("draw"), self.ask("loss"), self.ask("parts"), self.places())

    def hold(self):
        """Holds each answer that changes nothing against the known plan."""
        setting = self.setting()
        self.assertTrue(told_setting(self.known, setting), (self.known, setting))
        self.assertEqual(self.ask("loss"), str(told_loss(self.known, setting)))
        self.assertEqual(self.ask("loss"), str(told_least(self.known)))
        self.assertEqual(self.ask("parts"), " ".join(map("+".join, told_parts(self.known))))
        self.assertEqual(self.ask("draw"), told_drawing(self.known, setting).replace("\n", "/"))
        for name in names_of(self.known):
            self.assertEqual(self.ask("why " + name), told_why(self.known, setting, name))
        self.hold_all()

    def hold_all(self):
        others = [point[0] for point in self.known[3] if len(point[4]) != 2]
        if others:
            with self.assertRaises(NotTwo) as caught:
                self.desk.say("all")
            self.assertEqual(caught.exception.name, others[0])
            return
        words = self.ask("all").split(" ")
        if next(settings_of(self.known, out=False), None) is not None:
            self.assertEqual(words, ["yes"])
            return
        self.assertEqual(words[0], "no")
        chain = [tuple(word.split(":")) for word in words[1:]]
        self.assertTrue(told_chain(self.known, [(name, int(place)) for name, place in chain]))

    def refused(self, refusal, row):
        """Refused with just this, and nothing is changed by it."""
        before = self.state()
        with self.assertRaises(LabelError, msg=row) as caught:
            self.desk.say(row)
        self.assertIsInstance(caught.exception, ValueError)
        self.assertEqual([kind for kind in REFUSALS if isinstance(caught.exception, kind)], [refusal], row)
        self.assertEqual(self.state(), before)
        return caught.exception


class Rows(Held):
    def test_a_new_desk(self):
        self.begin()
        self.hold()
        answers = [self.ask(row) for row in ("loss", "parts", "all", "draw")]
        self.assertEqual(answers, ["0", "", "yes", "."])

    def test_two_desks_are_apart(self):
        self.begin("sheet 3 3", "put a 1 1 5 up:1")
        Desk().say("sheet 2 2")
        self.hold()
        self.assertEqual(Desk().say("draw"), ".")

    def test_written_out(self):
        self.begin()
        rows = (
            ("sheet 9 4", "ok"), ("keep 0 0 2 1", "ok"), ("put abc 4 1 50 right:1 left:3", "abc"), ("loss", "1"),
            ("place abc", "right"), ("why abc", "free free"), ("put de 8 1 40 left:2 down:9", "abc de"), ("loss", "5"),
            ("draw", "##......./.aaaA.bbB/........./........."), ("parts", "abc+de"),
            ("all", "yes"), ("place abc", "left"), ("place de", "left"), ("why abc", "name:de free"),
            ("why de", "free free"), ("move de 8 2", "abc de"), ("loss", "3"), ("parts", "abc de"), ("move de 8 2", ""),
            ("drop abc", ""), ("drop de", ""), ("parts", ""), ("loss", "0"),
            ("draw", "##......./........./........./........."),
        )
        for row, answer in rows:
            self.assertEqual(self.ask(row), answer, row)

    def test_rows_of_deeds(self):
        chance = random.Random(131)
        for number in range(25):
            wide, high = chance.choice(((9, 7), (14, 4), (20, 20), (5, 5), (3, 8)))
            self.begin(f"sheet {wide} {high}")
            for _ in range(12):
                self.say(self.some_row(chance, (2, 60)[number % 2], number % 3 == 0))

    def some_row(self, chance, figures, twos):
        wide, high, kept, points = self.known
        free = [cell for cell in itertools.product(range(wide), range(high)) if cell not in [p[1:3] for p in points]]
        deed = chance.choice(("put", "put", "move", "drop", "keep")) if points else "put"
        if deed == "put" and len(points) < 6:
            name = chance.choice([name for name in ("a", "bb", "ccc", "dd", "e", "ff", "g") if name not in names_of(self.known)])
            ways = chance.sample(WAYS, 2 if twos else chance.randint(1, 3))
            places = tuple((way, some_number(chance, figures)) for way in ways)
            return "put " + point_words((name, *chance.choice(free), some_number(chance, figures), places))
        name = chance.choice(names_of(self.known))
        if deed == "move":
            return "move {} {} {}".format(name, *chance.choice(free))
        if deed == "keep":
            return "keep {} {} {} {}".format(*some_box(chance, wide, high, 2))
        return "drop " + name

    def test_sheets(self):
        self.begin()
        for wide, high in itertools.product((1, 2, 9, 10, 19, 20), repeat=2):
            self.say(f"sheet {wide} {high}")
            self.assertEqual(self.ask("draw"), "/".join(["." * wide] * high))

    def test_a_new_sheet_has_no_points_and_nothing_kept(self):
        self.begin("sheet 9 9", "keep 0 0 2 2", "put a 4 4 5 up:1", "sheet 3 2")
        self.assertEqual([self.ask(row) for row in ("draw", "parts", "loss")], [".../...", "", "0"])
        self.refused(NoName, "place a")

    def test_keep_has_the_same_points(self):
        self.begin("sheet 9 3", "put abc 4 1 50 right:1 left:3", "put d 0 0 9 down:2", "put e 8 2 9 left:0")
        self.say("keep 6 0 1 3")
        self.assertEqual(self.ask("place abc"), "left")
        self.say("keep 2 1 1 1")
        self.assertEqual([self.ask("place abc"), self.ask("why abc")], ["out", "keep:0 keep:1"])
        self.say("keep 0 0 9 3")
        self.assertEqual(self.ask("draw"), "B########/####A####/########C")
        self.assertEqual(self.ask("parts"), "abc d e")

    def test_keep_on_points_and_on_one_another(self):
        self.begin("sheet 4 2", "put ab 1 0 5 right:1", "keep 1 0 1 1", "keep 1 0 1 1", "keep 0 0 2 2")
        self.assertEqual(self.ask("draw"), "#Aaa/##..")

    def test_twenty_kept_boxes(self):
        self.begin("sheet 20 2", "put ab 1 0 5 right:1 left:1")
        for x in range(20):
            self.say(f"keep {x} 1 1 1")
        for row in ("keep 0 1 1 1", "keep 0 0 1 1", "keep 0 0 20 2"):
            self.refused(NoDeed, row)
        self.hold()

    def test_kept_boxes_that_do_not_lie_in_the_sheet(self):
        self.begin("sheet 7 5", "put ab 1 0 5 right:1 left:1")
        for box in ("7 0 1 1", "0 5 1 1", "0 0 8 1", "0 0 1 6", "6 4 2 1", "6 4 1 2", "20 20 1 1", SIXTY + " 0 1 1",
                    "0 " + SIXTY + " 1 1", "0 0 " + SIXTY + " 1", "0 0 1 " + SIXTY, "0 0 0 1", "0 0 1 0", "3 3 0 0"):
            self.refused(NoDeed, "keep " + box)
        self.say("keep 0 0 7 5")
        self.say("keep 6 4 1 1")

    def test_each_bar(self):
        self.begin("sheet 9 5", "keep 0 4 1 1", "keep 3 0 3 1", "put de 6 2 90 left:1", "put f 4 3 5 right:9",
                   "put a 4 1 5 up:1 down:2 left:3 right:4", "put gh 8 4 5 right:1 left:2 up:0 above:3 down:3")
        self.assertEqual(self.ask("why a"), "keep:1 name:de free free")
        self.assertEqual(self.ask("why f"), "free")
        self.assertEqual(self.ask("why gh"), "sheet free free sheet sheet")
        self.assertEqual(self.ask("why de"), "free")
        self.say("put i 5 2 7 down:1")
        self.assertEqual(self.ask("why de"), "point:i")

    def test_place(self):
        for way in WAYS:
            self.begin("sheet 9 9", f"put abc 4 4 5 {way}:1")
            self.assertEqual(self.ask("place abc"), way)
        self.begin("sheet 9 9", "put abc 4 4 5 up:6")
        self.assertEqual((self.ask("place abc"), self.ask("why abc")), ("out", "free"))

    def test_all(self):
        self.begin("sheet 6 1", "put abc 0 0 9 left:1 right:2", "put de 5 0 7 left:3 right:4")
        answer = self.ask("all").split(" ")
        self.assertEqual((answer[0], answer[1], len(answer) > 4), ("no", answer[-1], True))
        self.say("put f 3 0 1 left:1")
        with self.assertRaises(NotTwo) as caught:
            self.desk.say("all")
        self.assertEqual(caught.exception.name, "f")
        self.refused(NotTwo, "all")

    def test_losses_of_sixty_figures(self):
        self.begin("sheet 1 9")
        for y, name in enumerate("abcdefghi"):
            self.ask(f"put {name} 0 {y} {SIXTY} left:0")
        self.assertEqual(self.ask("loss"), str(9 * int(SIXTY)))
        self.begin("sheet 9 9", f"put a 4 4 {SIXTY} right:{SIXTY[:-1]}8")
        self.assertEqual((self.ask("loss"), self.ask("place a")), (SIXTY[:-1] + "8", "right"))


class Refused(Held):
    def setUp(self):
        self.begin("sheet 7 5", "keep 0 0 1 1", "put a 1 1 9 right:1 up:0", "put bc 4 3 9 left:2 right:2")

    def all_refused(self, rows):
        for row in rows:
            self.refused(NoDeed, row)
        self.hold()

    def test_no_text(self):
        self.all_refused((None, 0, 1, True, False, [], ["loss"], (), ("loss",), {}, b"loss", ["drop", "a"]))

    def test_no_signs_and_no_such_word(self):
        self.all_refused(("", " ", "  ", "x", "lose", "LOSS", "Loss", "losss", "los", "point a 1 2 3 up:1", "plan",
                          "a", "0", "why:a", "draw/", "free", "ok", "set 1 1", "putt a 1 2 3 up:1", "~", "#"))

    def test_words_too_few(self):
        self.all_refused(("sheet", "sheet 3", "keep", "keep 0", "keep 0 0", "keep 0 0 1", "put", "put d", "put d 3",
                          "put d 3 3", "put d 3 3 1", "move", "move a", "move a 3", "drop", "place", "why"))

    def test_words_too_many(self):
        self.all_refused(("sheet 3 3 3", "keep 0 0 1 1 1", "move a 3 3 3", "drop a bc", "loss a", "place a bc", "loss 0",
                          "why a bc", "all a", "parts a", "draw a", "put d 3 3 1 up:1 2", "drop a a", "loss loss"))

    def test_blanks(self):
        rows = ("sheet 3 3", "keep 0 0 1 1", "put d 3 3 1 up:1 left:2", "move a 3 3", "drop a", "loss", "place a", "why a",
                "all", "parts", "draw")
        for row in rows:
            wrong = [" " + row, row + " ", "  " + row, row + "  "]
            for at in [at for at, sign in enumerate(row) if sign == " "]:
                wrong += [row[:at] + " " + row[at:], row[:at] + "\t" + row[at + 1:], row[:at] + row[at + 1:]]
                wrong += [row[:at] + "\n" + row[at + 1:]]
            self.all_refused(wrong + [row + "\n", "\n" + row])

    def test_numbers(self):
        for number in ("", "00", "01", "-1", "+1", "1.0", "1e1", "x", "1_0", "0x1", "-0", "1" + "0" * 60, "0" * 61, "\u0661", "\u00b2"):
            self.all_refused(row.replace("N", number) for row in (
                "sheet N 3", "sheet 3 N", "keep N 0 1 1", "keep 0 N 1 1", "keep 0 0 N 1", "keep 0 0 1 N",
                "put d N 3 1 up:1", "put d 3 N 1 up:1", "put d 3 3 N up:1", "put d 3 3 1 up:N", "move a N 3", "move a 3 N",
            ))

    def test_sheets_that_are_none(self):
        self.all_refused(("sheet 0 5", "sheet 5 0", "sheet 21 5", "sheet 5 21", "sheet 0 0", f"sheet {SIXTY} 5",
                          f"sheet 5 {SIXTY}", "sheet 100 100"))

    def test_names(self):
        for name in ("", "abcdefghi", "A", "aB", "a1", "1", "a_b", "a-b", "a:b", "#", ".", "\u00e4", "a" * 100):
            self.all_refused(row.replace("N", name) for row in (
                "put N 3 3 1 up:1", "move N 3 3", "drop N", "place N", "why N",
            ))

    def test_places(self):
        for places in ("up", "up:", ":1", "up:1:2", "up;1", "UP:1", "Up:1", "over:1", "up:1 up:2", "up:1 left:1 up:1", "up:x",
                       "up:-1", "up:01", "up:1,left:2", "1:up", "up :1", "up: 1", "up:1 left", "up:1 2", "up:" + "1" * 61,
                       "right:1 left:1 above:1 below:1 up:1 down:1 right:1",
                       "right:1 left:1 above:1 below:1 up:1 down:1 over:1", "a:1", "upp:1", "u:1", "", "sheet:1"):
            self.refused(NoDeed, "put d 3 3 1 " + places)

    def test_a_row_that_is_none_is_that_first(self):
        self.all_refused(("put a 3 3 1 up", "put a 99 3 1 up:01", "put d 99 3 1 up:x", "move x 3", "move x 99 03", "drop X",
                          "place X", "why X", "move a 99 -1"))

    def test_names_that_are_not_there(self):
        for name in ("b", "aa", "abcdefgh", "out", "all", "sheet"):
            for row in (f"move {name} 3 3", f"move {name} 7 5", f"move {name} {SIXTY} 0", f"drop {name}", f"place {name}",
                        f"why {name}"):
                self.assertEqual(self.refused(NoName, row).name, name)

    def test_a_name_that_is_there(self):
        self.assertEqual(self.refused(Twice, "put a 3 3 1 up:1").name, "a")
        self.assertEqual(self.refused(Twice, "put bc 99 3 1 up:1").name, "bc")

    def test_cells(self):
        for cell in ((7, 0), (0, 5), (7, 5), (20, 20), (int(SIXTY), 0), (0, int(SIXTY)), (4, 3)):
            self.assertEqual(self.refused(NoCell, "put d {} {} 1 up:1".format(*cell)).cell, cell)
            self.assertEqual(self.refused(NoCell, "move a {} {}".format(*cell)).cell, cell)
        self.say("move bc 6 4")
        self.say("move a 1 1")

    def test_a_twenty_seventh_point(self):
        self.begin("sheet 20 3")
        for number in range(26):
            self.ask(f"put {'abcdefghijklmnopqrstuvwxyz'[number]} {number % 20} {2 * (number // 20)} 1 below:0 above:0")
        self.refused(TooMany, "put new 19 2 1 up:1")
        self.refused(NoCell, "put new 20 2 1 up:1")
        self.refused(Twice, "put a 20 2 1 up:1")
        self.refused(NoDeed, "put a 20 2 1 up:1 up:1")
        self.assertEqual(self.ask("drop a"), "u")
        self.assertEqual(self.ask("put new 0 0 1 up:1"), "new")
        self.refused(TooMany, "put newer 19 2 1 up:1")

    def test_each_way_and_six_places_are_let_by(self):
        self.say("put d 3 1 1 right:1 left:2 above:3 below:4 up:5 down:6")
        self.say(f"put abcdefgh 6 0 {SIXTY} down:{SIXTY}")
        self.say("put sheet 0 4 0 up:0")

    def test_the_desk_works_on_behind_refusals(self):
        chance = random.Random(132)
        for _ in range(20):
            self.refused(NoDeed, some_name(chance, (9, 12)))
            self.say("move a {} {}".format(chance.randrange(7), chance.randrange(3)))
            self.refused(NoCell, "move a 4 3")
            self.say("put d {} 4 3 up:{}".format(chance.randrange(7), chance.randrange(9)))
            self.refused(Twice, "put d 0 4 3 up:1")
            self.say("drop d")
            self.refused(NoName, "drop d")


if __name__ == "__main__":
    unittest.main()
