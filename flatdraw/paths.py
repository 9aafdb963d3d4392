"""Ways along ties, over rows: for each point, by its number, the points beside it."""


def reached(rows, start, barred=()):
    """The points to which one comes from `start` without the barred ones, rising; `start` is among them."""
    found = [start]
    at = 0
    while at < len(found):
        here = found[at]
        for point in rows[here]:
            if point not in barred and point not in found:
                found.append(point)
        at += 1
    return sorted(found)


def way(rows, start, goal, through):
    """A shortest way from `start` to the goal whose points between them are among `through`.

    There has to be such a way.
    """
    ways = [[start]]
    met = [start]
    at = 0
    while goal not in rows[met[at]]:
        here = met[at]
        for point in rows[here]:
            if point in through and point not in met:
                met.append(point)
                ways.append(ways[at] + [point])
        at += 1
    return ways[at] + [goal]
