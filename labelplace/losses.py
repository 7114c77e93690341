"""Settings of least loss, reckoned part by part, and the papers that show that none loses less."""

from labelplace.papers import Cases, End, choices_of, with_choice
from labelplace.parts import parts
from labelplace.plans import names_of
from labelplace.settings import point_of


# Of each name its choices (loss, bits, place), the cheapest first. Of those that lose the same, staying out
# stands first, since it gets in nobody's way; it is always there, so no name is ever without a choice.
def choices_by_loss(plan, names):
    free = {}
    for name in names:
        choices = choices_of(plan, name)
        told = [(choices[place][1], choices[place][0], place) for place in choices]
        free[name] = sorted(told, key=lambda choice: choice[0])
    return free


def cheapest_sum(free):
    return sum([choices[0][0] for choices in free.values()])


def narrowed(free, name, taken):
    left = {}
    for other in free:
        if other != name:
            left[other] = [choice for choice in free[other] if choice[1] & taken == 0]
    return left


def crossed_names(free):
    crossed = []
    for name in free:
        taken = free[name][0][1]
        if any([free[other][0][1] & taken != 0 for other in free if other != name]):
            crossed.append(name)
    return crossed


# The name that loses most where it can't have its cheapest choice: so the losses rise soon, and papers stay small.
# A crossed name's cheapest choice takes cells, so there is a second one: staying out, or a place.
def name_to_split(free, crossed):
    return max(crossed, key=lambda name: free[name][1][0] - free[name][0][0])


def with_cheapest(places, free):
    more = dict(places)
    for name in free:
        more[name] = free[name][0][2]
    return more


# Tells a paper, and the best of what was found already and what the free names can do beside those set ahead:
# a tuple (loss, places). No name is split where the cheapest choices come to no less than the best so far,
# nor where no two of them meet: then they are the new best themselves.
def search(free, places, lost, best):
    least_here = lost + cheapest_sum(free)
    if least_here >= best[0]:
        return (End(), best)
    crossed = crossed_names(free)
    if len(crossed) == 0:
        return (End(), (least_here, with_cheapest(places, free)))
    name = name_to_split(free, crossed)
    cases = []
    for loss, taken, place in free[name]:
        found = search(narrowed(free, name, taken), with_choice(places, name, place), lost + loss, best)
        cases.append((place, found[0]))
        best = found[1]
    return (Cases(name, cases), best)


def all_out(plan, names):
    losses = [point_of(plan, name)[3] for name in names]
    return (sum(losses), dict([(name, None) for name in names]))


def least_of(plan, names):
    return search(choices_by_loss(plan, names), {}, 0, all_out(plan, names))[1]


# Searched once more, now with the best known from the beginning, so that each End stands as early as it can.
def paper_of(plan, names, best):
    return search(choices_by_loss(plan, names), {}, 0, best)[0]


def least(plan):
    places = {}
    loss = 0
    papers = []
    for part in parts(plan):
        best = least_of(plan, part)
        loss += best[0]
        places.update(best[1])
        papers.append(paper_of(plan, part, best))
    return ([places[name] for name in names_of(plan)], loss, papers)
