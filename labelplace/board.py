"""A board: a plan whose points come and go, and a setting of it of least loss."""

from labelplace.errors import NoCell, TooMany, Twice
from labelplace.losses import least_of
from labelplace.parts import parts
from labelplace.plans import MOST_POINTS, cell_is_free, names_of, refuse_unknown
from labelplace.settings import open_places, point_of


# All that the setting of a part hangs on, beside what no deed changes.
def look_of(plan, part):
    look = []
    for name in part:
        point = point_of(plan, name)
        look.append((name, point[1], point[2], open_places(plan, name)))
    return look


def looks_of(plan):
    return [look_of(plan, part) for part in parts(plan)]


def refuse_cell(plan, name, x, y):
    if not cell_is_free(plan, name, x, y):
        raise NoCell((x, y))


class Board:
    # Begun without points, so that all parts of the plan are new ones.
    def __init__(self, plan):
        self.held = plan[:3] + ((),)
        self.places = {}
        self.take(plan[3])

    def plan(self):
        return self.held

    def setting(self):
        return [self.places[name] for name in names_of(self.held)]

    def take(self, points):
        plan = self.held[:3] + (points,)
        before = looks_of(self.held)
        anew = {}
        for part in parts(plan):
            if look_of(plan, part) not in before:
                anew.update(least_of(plan, part)[1])
        names = names_of(plan)
        self.places = dict([(name, anew[name] if name in anew else self.places[name]) for name in names])
        self.held = plan
        return [name for name in names if name in anew]

    def put(self, point):
        if point[0] in names_of(self.held):
            raise Twice(point[0])
        refuse_cell(self.held, point[0], point[1], point[2])
        if len(self.held[3]) >= MOST_POINTS:
            raise TooMany()
        return self.take(self.held[3] + (point,))

    def move(self, name, x, y):
        refuse_unknown(self.held, name)
        refuse_cell(self.held, name, x, y)
        points = [(name, x, y) + point[3:] if point[0] == name else point for point in self.held[3]]
        return self.take(tuple(points))

    def drop(self, name):
        refuse_unknown(self.held, name)
        return self.take(tuple([point for point in self.held[3] if point[0] != name]))
