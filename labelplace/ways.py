"""The ways of placing a name at a point."""

WAYS = ("right", "left", "above", "below", "up", "down")


def box_at(way, x, y, size):
    if way == "right":
        return (x + 1, y, size, 1)
    if way == "left":
        return (x - size, y, size, 1)
    if way == "above":
        return (x - (size - 1) // 2, y - 1, size, 1)
    if way == "below":
        return (x - (size - 1) // 2, y + 1, size, 1)
    if way == "up":
        return (x, y - size, 1, size)
    return (x, y + 1, 1, size)
