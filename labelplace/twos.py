"""Plans whose points have two places each: all names are set, or a chain shows that they can't be."""

from labelplace.boxes import meet
from labelplace.errors import NotTwo
from labelplace.settings import all_open_boxes
from labelplace.walks import reached_from, way_to


def refuse_other_than_two(plan):
    for point in plan[3]:
        if len(point[4]) != 2:
            raise NotTwo(point[0])


def followers(boxes, name, place):
    if place not in boxes[name]:
        return [(name, 1 - place)]
    box = boxes[name][place]
    told = []
    for other in boxes:
        if other != name:
            told.extend([(other, 1 - met) for met in boxes[other] if meet(box, boxes[other][met])])
    return told


def follow(plan, name, place):
    refuse_other_than_two(plan)
    return followers(all_open_boxes(plan), name, place)


def links_of(plan):
    boxes = all_open_boxes(plan)
    links = {}
    for name in boxes:
        for place in (0, 1):
            links[(name, place)] = followers(boxes, name, place)
    return links


# Must-be also holds turned about. So a place that doesn't lead to its name's other place leads to
# no two places of any name and to none that is held otherwise: all that it leads to can be held
# beside what is held already, and no name needs to be looked at again.
def all_set(plan):
    refuse_other_than_two(plan)
    links = links_of(plan)
    held = {}
    for name in [point[0] for point in plan[3]]:
        if name in held:
            continue
        reached = reached_from(links, (name, 0))
        if (name, 1) in reached:
            back = reached_from(links, (name, 1))
            if (name, 0) in back:
                return (None, way_to(reached, (name, 1)) + way_to(back, (name, 0))[1:])
            reached = back
        for other, place in reached:
            held[other] = place
    return ([held[point[0]] for point in plan[3]], None)
