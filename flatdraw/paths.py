"""Ways along ties, over rows: for each point, by its number, the points beside it."""


def reached(rows, start, barred=None):
    """The points to which one comes from `start` without the barred one, rising; `start` is among them."""
    found = [start]
    at = 0
    while at < len(found):
        here = found[at]
        for point in rows[here]:
            if point != barred and point not in found:
                found.append(point)
        at += 1
    return sorted(found)
