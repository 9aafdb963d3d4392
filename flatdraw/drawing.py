"""Drawing a web on a sheet without a crossing, block by block.

A block is drawn by beginning with one of its ties and laying path upon path into the fields that there are.
A field is told by its border: the walk around it, as the list of its points. What is yet to be drawn of the
block falls into bridges. A bridge is a single tie between two drawn points, or points that are joined without
drawn points, with all their ties; its feet are the drawn points in it. It is told as (inner points, feet).
"""

from flatdraw.parts import blocks
from flatdraw.paths import reached, way


def drawn(web):
    """Flat turns of the web, or None where there are none."""
    turns = [[] for _ in range(web.many)]
    for block in blocks(web):
        fields = _fields(block)
        if fields is None:
            return None
        # Two blocks share one point at most, so at that point the one may be drawn wholly behind the other.
        for point in _points(block):
            turns[point].extend(_turn(fields, point))
    return turns


def _fields(ties):
    """The fields of the block of these ties, drawn without a crossing, or None where that cannot be."""
    rows = _rows(ties)
    fields = [list(ties[0])]
    left = ties[1:]
    while left:
        bridge, homes = _tightest(_bridges(rows, _points(fields), left), fields)
        if not homes:
            return None
        path = _path(rows, bridge)
        left = _untied(left, path)
        field = fields.pop(homes[0])
        fields.extend(_split(field, path))
    return fields


def _points(groups):
    """The points that stand in these ties or fields, rising."""
    return sorted({point for group in groups for point in group})


def _rows(ties):
    """For each point of these ties the points beside it."""
    rows = {point: [] for point in _points(ties)}
    for one, other in ties:
        rows[one].append(other)
        rows[other].append(one)
    return rows


def _bridges(rows, shown, left):
    """The bridges over the shown points, by the ties that are left."""
    bridges = [([], [one, other]) for one, other in left if one in shown and other in shown]
    placed = []
    for point in rows:
        if point not in shown and point not in placed:
            inner = reached(rows, point, shown)
            placed.extend(inner)
            bridges.append((inner, [foot for foot in shown if any([near in inner for near in rows[foot]])]))
    return bridges


def _tightest(bridges, fields):
    """The bridge that fits into the fewest fields, and the places of these fields.

    A bridge with one field left has to be drawn there before another one takes it. Where each bridge has
    several, none of the choices spoils the drawing.
    """
    choices = [(bridge, _homes(bridge, fields)) for bridge in bridges]
    return min(choices, key=lambda choice: len(choice[1]))


def _homes(bridge, fields):
    """The places of the fields into which the bridge fits: all its feet are on their borders."""
    _, feet = bridge
    return [at for at, field in enumerate(fields) if all([foot in field for foot in feet])]


def _path(rows, bridge):
    """A path through the bridge from one of its feet to another one."""
    inner, feet = bridge
    if not inner:
        return feet
    first = [point for point in rows[feet[0]] if point in inner][0]
    return feet[:1] + way(rows, first, feet[1], inner)


def _untied(left, path):
    """The ties that are left when this path has been drawn."""
    gone = {tuple(sorted(step)) for step in zip(path, path[1:])}
    return [tie for tie in left if tie not in gone]


def _split(field, path):
    """The two fields that this path makes of the field."""
    start = field.index(path[0])
    around = field[start:] + field[:start]
    end = around.index(path[-1])
    return [around[:end + 1] + path[-2:0:-1], around[end:] + path[:-1]]


def _turn(fields, point):
    """The turn of this point by which the walks are the borders of these fields."""
    behind = {}
    for field in fields:
        if point in field:
            at = field.index(point)
            behind[field[at - 1]] = field[(at + 1) % len(field)]
    turn = [min(list(behind))]
    while behind[turn[-1]] != turn[0]:
        turn.append(behind[turn[-1]])
    return turn
