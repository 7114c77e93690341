"""Cells (x, y) and boxes (x, y, wide, high) of a sheet."""


def cells_of(box):
    cells = []
    for y in range(box[1], box[1] + box[3]):
        cells.extend([(x, y) for x in range(box[0], box[0] + box[2])])
    return cells


def spans_meet(start, size, other_start, other_size):
    return max(start, other_start) < min(start + size, other_start + other_size)


def meet(one, other):
    return spans_meet(one[0], one[2], other[0], other[2]) and spans_meet(one[1], one[3], other[1], other[3])


def lies_in(box, wide, high):
    return box[0] >= 0 and box[1] >= 0 and box[0] + box[2] <= wide and box[1] + box[3] <= high


def doubled(number, times):
    for step in range(times):
        number = number + number
    return number


# All lines of a box have the same bits but for where they begin, so one line's bits are
# laid over one another, a sheet's width apart, and then brought down to the box's first line.
def bits(box, wide):
    line = doubled(doubled(1, box[2]) - 1, box[0])
    total = 0
    for step in range(box[3]):
        total = doubled(total, wide) + line
    return doubled(total, box[1] * wide)
