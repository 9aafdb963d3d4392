"""Parts of a web: its blocks."""

from flatdraw.paths import reached


def blocks(web):
    """The blocks, each a rising list of ties, by their least ties."""
    rows = [web.beside(point) for point in range(web.many)]
    found = []
    placed = set()
    for tie in web.ties():
        if tie not in placed:
            block = _block(rows, tie)
            found.append(block)
            for each in block:
                placed.add(each)
    return found


def _block(rows, first):
    """The block of this tie, rising."""
    block = [first]
    at = 0
    while at < len(block):
        low, high = block[at]
        # A ring leads from tie to tie over shared points, so looking on at both ends finds all of it.
        for tie in _ringed(rows, low, high) + _ringed(rows, high, low):
            if tie not in block:
                block.append(tie)
        at += 1
    return sorted(block)


def _ringed(rows, hub, end):
    """The tie from the hub to the end, and those from the hub that some ring goes along with it.

    Two ties from the hub are in a ring just where one comes from the far end of the one to that
    of the other without the hub.
    """
    near = reached(rows, end, [hub])
    return [(min(hub, point), max(hub, point)) for point in rows[hub] if point in near]
