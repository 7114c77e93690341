"""Open places of a plan's points, and settings: for each point in turn the number of an open place, or None."""

from labelplace.boxes import lies_in, meet
from labelplace.ways import box_at


def point_of(plan, name):
    return [point for point in plan[3] if point[0] == name][0]


def boxes_of(point):
    return [box_at(way, point[1], point[2], len(point[0])) for way, price in point[4]]


def box_of(plan, name, place):
    return boxes_of(point_of(plan, name))[place]


# What bars a place in every setting. Points stand ahead of kept boxes, since the first bar is the one told.
def standing_bars(plan):
    bars = [(("point", point[0]), (point[1], point[2], 1, 1)) for point in plan[3]]
    bars.extend([(("keep", number), box) for number, box in enumerate(plan[2])])
    return bars


def name_bars(plan, setting, name):
    bars = []
    for point, place in zip(plan[3], setting):
        if place is not None and point[0] != name:
            bars.append((("name", point[0]), boxes_of(point)[place]))
    return bars


def first_bar(plan, box, bars):
    if not lies_in(box, plan[0], plan[1]):
        return ("sheet",)
    for bar, taken in bars:
        if meet(box, taken):
            return bar
    return None


def open_boxes(plan, point):
    bars = standing_bars(plan)
    boxes = {}
    for place, box in enumerate(boxes_of(point)):
        if first_bar(plan, box, bars) is None:
            boxes[place] = box
    return boxes


def all_open_boxes(plan):
    return dict([(point[0], open_boxes(plan, point)) for point in plan[3]])


def open_places(plan, name):
    return list(open_boxes(plan, point_of(plan, name)))


def is_setting(plan, setting):
    boxes = []
    for point, place in zip(plan[3], setting):
        if place is not None:
            # Looked up as a key, so that -1 is no place and doesn't count from the end.
            box = open_boxes(plan, point).get(place)
            if box is None or any([meet(box, other) for other in boxes]):
                return False
            boxes.append(box)
    return True


def loss_of(plan, setting):
    total = 0
    for point, place in zip(plan[3], setting):
        total += point[3] if place is None else point[4][place][1]
    return total


def barred_by(plan, setting, name):
    bars = standing_bars(plan) + name_bars(plan, setting, name)
    return [first_bar(plan, box, bars) for box in boxes_of(point_of(plan, name))]
