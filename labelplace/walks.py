"""Walks along links: a dict that tells, of each thing, a list of the things one step from it."""


# Each thing that is come to has the one ahead of it. Walked in widening rings, so that
# each way back to the start is a shortest one: the bound on a chain's length rests on that.
def reached_from(links, start):
    ahead = {start: None}
    ring = [start]
    while len(ring) > 0:
        wider = []
        for thing in ring:
            for other in links[thing]:
                if other not in ahead:
                    ahead[other] = thing
                    wider.append(other)
        ring = wider
    return ahead


def way_to(ahead, goal):
    way = []
    while goal is not None:
        way.append(goal)
        goal = ahead[goal]
    return list(reversed(way))
