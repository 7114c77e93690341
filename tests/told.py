"""What the document tells, written another way than the program writes it, and plans to hold the program against it."""

import itertools
import string

TOLD = {
    "right": lambda x, y, n: (x + 1, y, n, 1),
    "left": lambda x, y, n: (x - n, y, n, 1),
    "above": lambda x, y, n: (x - (n - 1) // 2, y - 1, n, 1),
    "below": lambda x, y, n: (x - (n - 1) // 2, y + 1, n, 1),
    "up": lambda x, y, n: (x, y - n, 1, n),
    "down": lambda x, y, n: (x, y + 1, 1, n),
}
WAYS = list(TOLD)


def told_cells(box):
    """The cells of [4]."""
    x, y, wide, high = box
    return {(x + step % wide, y + step // wide) for step in range(wide * high)}


def told_box(point, place):
    """The box of [5]."""
    name, x, y, _, places = point
    return TOLD[places[place][0]](x, y, len(name))


def place_cells(point, place):
    return told_cells(told_box(point, place))


def point_named(plan, name):
    return next(point for point in plan[3] if point[0] == name)


def names_of(plan):
    return [point[0] for point in plan[3]]


def barred_cells(plan):
    cells = {(x, y) for _, x, y, _, _ in plan[3]}
    return cells.union(*[told_cells(box) for box in plan[2]])


def told_open(plan, point):
    """The open places of [8], cell by cell."""
    sheet = {(x, y) for x in range(plan[0]) for y in range(plan[1])}
    free = sheet - barred_cells(plan)
    return [place for place in range(len(point[4])) if place_cells(point, place) <= free]


def open_cells(plan):
    """For each name its open places, each with its cells."""
    return {point[0]: {place: place_cells(point, place) for place in told_open(plan, point)} for point in plan[3]}


def told_setting(plan, setting):
    """Whether a list is a setting by [9]."""
    seen = set()
    for point, place in zip(plan[3], setting):
        if place is None:
            continue
        if place not in told_open(plan, point) or seen & place_cells(point, place):
            return False
        seen |= place_cells(point, place)
    return True


def told_loss(plan, setting):
    lost = [point[3] if place is None else point[4][place][1] for point, place in zip(plan[3], setting)]
    return sum(lost)


def settings_of(plan, out=True):
    """All settings of a small plan, by going through all choices; without `out` those in which no name stays out."""
    cells = open_cells(plan)
    choices = [[None] * out + list(cells[name]) for name in cells]
    for places in itertools.product(*choices):
        taken = [cells[name][place] for name, place in zip(cells, places) if place is not None]
        if sum(map(len, taken)) == len(set().union(*taken)):
            yield list(places)


def some_number(chance, figures=60):
    return chance.randrange(10 ** chance.randint(0, figures))


def some_name(chance, letters):
    return "".join(chance.choices(string.ascii_lowercase, k=chance.randint(*letters)))


def some_box(chance, wide, high, side=20):
    x, y = chance.randrange(wide), chance.randrange(high)
    return (x, y, chance.randint(1, min(side, wide - x)), chance.randint(1, min(side, high - y)))


def some_plan(chance, sheet=None, points=26, kept=20, side=20, places=(1, 6), letters=(1, 8), figures=60):
    """A plan with at most so many points and kept boxes, these at most `side` wide and high."""
    wide, high = sheet or (chance.randint(1, 20), chance.randint(1, 20))
    boxes = tuple(some_box(chance, wide, high, side) for _ in range(chance.randint(0, kept)))
    cells = list(itertools.product(range(wide), range(high)))
    cells = chance.sample(cells, chance.randint(0, min(points, len(cells))))
    names = []
    while len(names) < len(cells):
        name = some_name(chance, letters)
        if name not in names:
            names.append(name)
    told = []
    for name, (x, y) in zip(names, cells):
        ways = chance.sample(WAYS, chance.randint(*places))
        told.append((name, x, y, some_number(chance, figures), tuple((way, some_number(chance, figures)) for way in ways)))
    return (wide, high, boxes, tuple(told))


def roomy_plan(chance, **given):
    """A plan with few and small kept boxes, so that many of its places are open."""
    return some_plan(chance, **{"kept": 4, "side": 2, "letters": (1, 4), "figures": 2, **given})


def some_setting(chance, plan):
    """A setting by [9], in which names stay out here and there."""
    setting = [None] * len(plan[3])
    cells = open_cells(plan)
    seen = set()
    for number in chance.sample(range(len(setting)), len(setting)):
        name = plan[3][number][0]
        free = [place for place in cells[name] if not seen & cells[name][place]]
        if free and chance.random() < 0.8:
            setting[number] = chance.choice(free)
            seen |= cells[name][setting[number]]
    return setting
