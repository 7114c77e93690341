"""Neighbours, whose open places meet, and parts, which hang together by neighbours."""

from labelplace.boxes import bits
from labelplace.settings import all_open_boxes
from labelplace.walks import reached_from


# Some open place of one point meets some of another just where the cells of all of them have one in common.
def reaches_of(plan):
    boxes = all_open_boxes(plan)
    reaches = {}
    for name in boxes:
        reach = 0
        for place in boxes[name]:
            reach = reach | bits(boxes[name][place], plan[0])
        reaches[name] = reach
    return reaches


def near(reaches, name):
    return [other for other in reaches if other != name and reaches[other] & reaches[name] != 0]


def neighbours(plan, name):
    return near(reaches_of(plan), name)


def parts(plan):
    reaches = reaches_of(plan)
    links = dict([(name, near(reaches, name)) for name in reaches])
    placed = {}
    told = []
    for name in links:
        if name not in placed:
            reached = reached_from(links, name)
            placed.update(reached)
            told.append([other for other in links if other in reached])
    return told
