"""What the document tells, written another way than the program writes it, and plans to hold the program against it."""

import functools
import itertools
import string

TOLD = {
    "right": lambda x, y, n: (x + 1, y, n, 1),
    "left": lambda x, y, n: (x - n, y, n, 1),
    "above": lambda x, y, n: (x - (n - 1) // 2, y - 1, n, 1),
    "below": lambda x, y, n: (x - (n - 1) // 2, y + 1, n, 1),
    "up": lambda x, y, n: (x, y - n, 1, n),
    "down": lambda x, y, n: (x, y + 1, 1, n),
}
WAYS = list(TOLD)


def told_cells(box):
    """The cells of [4]."""
    x, y, wide, high = box
    return {(x + step % wide, y + step // wide) for step in range(wide * high)}


def told_box(point, place):
    """The box of [5]."""
    name, x, y, _, places = point
    return TOLD[places[place][0]](x, y, len(name))


def place_cells(point, place):
    return told_cells(told_box(point, place))


def point_named(plan, name):
    return next(point for point in plan[3] if point[0] == name)


def names_of(plan):
    return [point[0] for point in plan[3]]


def barred_cells(plan):
    cells = {(x, y) for _, x, y, _, _ in plan[3]}
    return cells.union(*[told_cells(box) for box in plan[2]])


def told_open(plan, point):
    """The open places of [8], cell by cell."""
    sheet = {(x, y) for x in range(plan[0]) for y in range(plan[1])}
    free = sheet - barred_cells(plan)
    return [place for place in range(len(point[4])) if place_cells(point, place) <= free]


@functools.lru_cache(maxsize=100)
def open_cells(plan):
    """For each name its open places, each with its cells. Kept for the plans asked last, so it is to be read alone."""
    return {point[0]: {place: place_cells(point, place) for place in told_open(plan, point)} for point in plan[3]}


def told_setting(plan, setting):
    """Whether a list is a setting by [9]."""
    seen = set()
    for point, place in zip(plan[3], setting):
        if place is None:
            continue
        if place not in told_open(plan, point) or seen & place_cells(point, place):
            return False
        seen |= place_cells(point, place)
    return True


def told_loss(plan, setting):
    lost = [point[3] if place is None else point[4][place][1] for point, place in zip(plan[3], setting)]
    return sum(lost)


def told_bars(plan, setting, name):
    """What [10] tells, cell by cell."""
    sheet = {(x, y) for x in range(plan[0]) for y in range(plan[1])}
    bars = [(("point", point[0]), {(point[1], point[2])}) for point in plan[3]]
    bars += [(("keep", number), told_cells(box)) for number, box in enumerate(plan[2])]
    for point, place in zip(plan[3], setting):
        if point[0] != name and place is not None:
            bars.append((("name", point[0]), place_cells(point, place)))
    told = []
    for place in range(len(point_named(plan, name)[4])):
        cells = place_cells(point_named(plan, name), place)
        met = [bar for bar, barred in bars if cells & barred]
        told.append((met + [None])[0] if cells <= sheet else ("sheet",))
    return told


def choices_beside(plan, names, out=True):
    """All ways in which these names can be set beside one another, each a dict; without `out` none stays out."""
    cells = open_cells(plan)
    for places in itertools.product(*[[None] * out + list(cells[name]) for name in names]):
        taken = [cells[name][place] for name, place in zip(names, places) if place is not None]
        if sum(map(len, taken)) == len(set().union(*taken)):
            yield dict(zip(names, places))


def settings_of(plan, out=True):
    """All settings of a small plan, by going through all choices; without `out` those in which no name stays out."""
    for chosen in choices_beside(plan, names_of(plan), out):
        yield list(chosen.values())


def told_follow(plan, name, place):
    """All that must follow by [11], held up one by one."""
    cells = open_cells(plan)
    told = set()
    for other, q in itertools.product(cells, (0, 1)):
        if other == name:
            holds = q == 1 - place and place not in cells[name]
        else:
            holds = place in cells[name] and 1 - q in cells[other] and cells[name][place] & cells[other][1 - q]
        if holds:
            told.add((other, q))
    return told


def told_chain(plan, chain):
    """Whether a list of tuples is a chain by [12]."""
    if len(chain) > 200 or chain[0] != chain[-1] or (chain[0][0], 1 - chain[0][1]) not in chain[1:-1]:
        return False
    return all(other in told_follow(plan, *one) for one, other in zip(chain, chain[1:]))


def told_neighbours(plan):
    """For each name its neighbours by [13]: some open place of the one meets some open place of the other."""
    cells = open_cells(plan)
    told = {name: [] for name in cells}
    for one, other in itertools.permutations(cells, 2):
        if any(a & b for a, b in itertools.product(cells[one].values(), cells[other].values())):
            told[one].append(other)
    return told


def told_parts(plan):
    """The parts by [13]: each name alone at first, then those that are neighbours thrown together."""
    near = told_neighbours(plan)
    part_of = {name: {name} for name in near}
    for one in near:
        for other in near[one]:
            joined = part_of[one] | part_of[other]
            for name in joined:
                part_of[name] = joined
    told = []
    for name in near:
        part = [other for other in near if other in part_of[name]]
        if part not in told:
            told.append(part)
    return told


def left_open(plan, name, ahead):
    """The open places of a name whose boxes meet no box set ahead, cell by cell."""
    cells = open_cells(plan)
    taken = set().union(*[cells[other][place] for other, place in ahead if place is not None])
    return [place for place in cells[name] if not cells[name][place] & taken]


def cost(plan, name, place):
    point = point_named(plan, name)
    return point[3] if place is None else point[4][place][1]


def told_sum(plan, names, ahead):
    """What [15] tells an End to come to."""
    total = sum(cost(plan, name, place) for name, place in ahead)
    for name in set(names) - {name for name, _ in ahead}:
        total += min(cost(plan, name, place) for place in [None] + left_open(plan, name, ahead))
    return total


def told_bounds(plan, names, loss, ahead, paper):
    """Whether a paper bounds the names by [15]; told of its fields alone."""
    if not hasattr(paper, "cases"):
        return told_sum(plan, names, ahead) >= loss
    if paper.name not in names or paper.name in dict(ahead):
        return False
    places = [place for place, _ in paper.cases]
    due = [None] + left_open(plan, paper.name, ahead)
    if any(places.count(place) != 1 for place in due) or len(places) != len(due):
        return False
    return all(told_bounds(plan, names, loss, ahead + [(paper.name, place)], other) for place, other in paper.cases)


def told_least(plan):
    """The least loss by [9], going through all choices of each part."""
    total = 0
    for part in told_parts(plan):
        total += min(sum(cost(plan, name, chosen[name]) for name in chosen) for chosen in choices_beside(plan, part))
    return total


def told_sign(plan, setting, cell):
    """The sign of one cell by [20]."""
    for number, (point, place) in enumerate(zip(plan[3], setting)):
        if point[1:3] == cell:
            return string.ascii_uppercase[number]
        if place is not None and cell in place_cells(point, place):
            return string.ascii_lowercase[number]
    return "#" if any(cell in told_cells(box) for box in plan[2]) else "."


def told_drawing(plan, setting):
    return "\n".join(
        "".join(told_sign(plan, setting, (x, y)) for x in range(plan[0])) for y in range(plan[1])
    )


def told_back(plan, setting):
    """The setting that is read back of a setting's drawing: each point's first place with the same cells."""
    told = []
    for point, place in zip(plan[3], setting):
        same = [other for other in range(len(point[4])) if place is not None
                and place_cells(point, other) == place_cells(point, place)]
        told.append(same[0] if same else None)
    return told


def some_number(chance, figures=60):
    return chance.randrange(10 ** chance.randint(0, figures))


def some_name(chance, letters):
    return "".join(chance.choices(string.ascii_lowercase, k=chance.randint(*letters)))


def some_box(chance, wide, high, side=20):
    x, y = chance.randrange(wide), chance.randrange(high)
    return (x, y, chance.randint(1, min(side, wide - x)), chance.randint(1, min(side, high - y)))


def some_plan(chance, sheet=None, points=26, kept=20, side=20, places=(1, 6), letters=(1, 8), figures=60):
    """A plan with at most so many points and kept boxes, these at most `side` wide and high."""
    wide, high = sheet or (chance.randint(1, 20), chance.randint(1, 20))
    boxes = tuple(some_box(chance, wide, high, side) for _ in range(chance.randint(0, kept)))
    cells = list(itertools.product(range(wide), range(high)))
    cells = chance.sample(cells, chance.randint(0, min(points, len(cells))))
    names = []
    while len(names) < len(cells):
        name = some_name(chance, letters)
        if name not in names:
            names.append(name)
    told = []
    for name, (x, y) in zip(names, cells):
        ways = chance.sample(WAYS, chance.randint(*places))
        told.append((name, x, y, some_number(chance, figures), tuple((way, some_number(chance, figures)) for way in ways)))
    return (wide, high, boxes, tuple(told))


def roomy_plan(chance, **given):
    """A plan with few and small kept boxes, so that many of its places are open."""
    return some_plan(chance, **{"kept": 4, "side": 2, "letters": (1, 4), "figures": 2, **given})


def some_setting(chance, plan):
    """A setting by [9], in which names stay out here and there."""
    setting = [None] * len(plan[3])
    cells = open_cells(plan)
    seen = set()
    for number in chance.sample(range(len(setting)), len(setting)):
        name = plan[3][number][0]
        free = [place for place in cells[name] if not seen & cells[name][place]]
        if free and chance.random() < 0.8:
            setting[number] = chance.choice(free)
            seen |= cells[name][setting[number]]
    return setting
