"""Plans (wide, high, kept, points), read from their text and shown as it."""

from labelplace.boxes import lies_in
from labelplace.errors import NoName, NoPlan
from labelplace.words import numbers_in, point_in

MOST_SIDE = 20
MOST_KEPT = 20
MOST_POINTS = 26


def names_of(plan):
    return [point[0] for point in plan[3]]


def refuse_unknown(plan, name):
    if name not in names_of(plan):
        raise NoName(name)


# Its own cell is free for a point that is moved, so the point of this name counts for nothing here.
def cell_is_free(plan, name, x, y):
    taken = [point[1:3] for point in plan[3] if point[0] != name]
    return lies_in((x, y, 1, 1), plan[0], plan[1]) and (x, y) not in taken


def sheet_plan(words):
    sides = numbers_in(words[1:])
    if words[0] != "sheet" or sides is None or len(sides) != 2:
        return None
    if min(sides) < 1 or max(sides) > MOST_SIDE:
        return None
    return (sides[0], sides[1], (), ())


def with_kept(plan, words):
    box = numbers_in(words)
    if box is None or len(box) != 4 or min(box[2:]) < 1 or not lies_in(box, plan[0], plan[1]):
        return None
    if len(plan[2]) >= MOST_KEPT:
        return None
    return (plan[0], plan[1], plan[2] + (box,), plan[3])


def lets_by(plan, point):
    if point[0] in names_of(plan) or len(plan[3]) >= MOST_POINTS:
        return False
    return cell_is_free(plan, point[0], point[1], point[2])


def with_point(plan, words):
    point = point_in(words)
    if point is None or not lets_by(plan, point):
        return None
    return (plan[0], plan[1], plan[2], plan[3] + (point,))


# Each line is held against the plan of the lines ahead of it, so the first one
# that can't stand there is found without a look at those behind it.
def with_line(plan, words):
    if plan is None:
        return sheet_plan(words)
    if words[0] == "keep" and len(plan[3]) == 0:
        return with_kept(plan, words[1:])
    if words[0] == "point":
        return with_point(plan, words[1:])
    return None


def read_plan(text):
    if not isinstance(text, str):
        raise NoPlan(0)
    plan = None
    for number, line in enumerate(text.split("\n")):
        plan = with_line(plan, line.split(" "))
        if plan is None:
            raise NoPlan(number)
    return plan


def line_of(word, values):
    return " ".join([word] + [str(value) for value in values])


def point_line(point):
    places = [f"{way}:{price}" for way, price in point[4]]
    return line_of("point", list(point[:4]) + places)


def show_plan(plan):
    lines = [line_of("sheet", plan[:2])]
    lines.extend([line_of("keep", box) for box in plan[2]])
    lines.extend([point_line(point) for point in plan[3]])
    return "\n".join(lines)
