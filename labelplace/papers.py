"""Papers, which show that no setting loses less by some names, to whoever goes through them without a search."""

from labelplace.boxes import bits
from labelplace.settings import open_boxes, point_of


# Of each choice of a name the bits of the cells that it takes, and what it loses.
# Staying out is such a choice too: it takes no cell, so nothing set ahead ever meets it.
def choices_of(plan, name):
    point = point_of(plan, name)
    boxes = open_boxes(plan, point)
    choices = {None: (0, point[3])}
    for place in boxes:
        choices[place] = (bits(boxes[place], plan[0]), point[4][place][1])
    return choices


def taken_bits(table, chosen):
    taken = 0
    for name in chosen:
        taken = taken | table[name][chosen[name]][0]
    return taken


def free_choices(choices, taken):
    return [place for place in choices if choices[place][0] & taken == 0]


def least_sum(table, chosen):
    taken = taken_bits(table, chosen)
    total = 0
    for name in table:
        places = [chosen[name]] if name in chosen else free_choices(table[name], taken)
        total += min([table[name][place][1] for place in places])
    return total


def with_choice(chosen, name, place):
    more = dict(chosen)
    more[name] = place
    return more


# The table of all choices is made once for a whole paper; each kind of paper has its own `shows`.
class Paper:
    def bounds(self, plan, names, loss, ahead):
        table = dict([(name, choices_of(plan, name)) for name in names])
        return self.shows(table, loss, dict(ahead))


class Cases(Paper):
    def __init__(self, name, cases):
        self.name = name
        self.cases = list(cases)

    def shows(self, table, loss, chosen):
        if self.name not in table or self.name in chosen:
            return False
        places = [case[0] for case in self.cases]
        free = free_choices(table[self.name], taken_bits(table, chosen))
        # Held against how many there are too, since a set doesn't tell a case that stands twice.
        if len(places) != len(free) or set(places) != set(free):
            return False
        for place, paper in self.cases:
            if not paper.shows(table, loss, with_choice(chosen, self.name, place)):
                return False
        return True


class End(Paper):
    def shows(self, table, loss, chosen):
        return least_sum(table, chosen) >= loss
