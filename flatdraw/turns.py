"""Turns of a web: the order in which the ties go round each point, and the walks along them."""

from flatdraw.errors import NoTurns
from flatdraw.webs import is_number


def are_turns(web, turns):
    """Whether this thing tells, for each point of the web, the points beside it, each of them once."""
    if type(turns) != list or len(turns) != web.many:
        return False
    return all([_is_turn(web.beside(point), turn) for point, turn in enumerate(turns)])


def walks(web, turns):
    """The walks, each from its least step on, by their least steps."""
    _check_turns(web, turns)
    found = []
    gone = set()
    # The steps come rising: the first one of a walk that has not been gone is its least one.
    for step in [(one, other) for one in range(web.many) for other in web.beside(one)]:
        if step not in gone:
            walk = _walk(turns, step)
            found.append(walk)
            for each in zip(walk, walk[1:] + walk[:1]):
                gone.add(each)
    return found


def flat(web, turns):
    """Whether the web can be drawn by these turns without a crossing."""
    found = walks(web, turns)
    return all([_is_flat(web, piece, found) for piece in web.pieces() if len(piece) > 1])


def _check_turns(web, turns):
    if not are_turns(web, turns):
        raise NoTurns("no turns of the web")


def _is_turn(near, turn):
    """Whether the turn tells just these points, which are rising, in some order."""
    # Only numbers can be sorted safely, so their kind is looked at first.
    return type(turn) == list and all([is_number(point) for point in turn]) and sorted(turn) == near


def _walk(turns, first):
    """The points from which the walk with this first step goes."""
    walk = [first[0]]
    one, other = _behind(turns, first)
    while (one, other) != first:
        walk.append(one)
        one, other = _behind(turns, (one, other))
    return walk


def _behind(turns, step):
    """The step that comes behind this one."""
    one, other = step
    turn = turns[other]
    return other, turn[(turn.index(one) + 1) % len(turn)]


def _is_flat(web, piece, found):
    """Whether this piece has as many of the walks as it must have to be flat."""
    ties = sum([len(web.beside(point)) for point in piece]) // 2
    own = [walk for walk in found if walk[0] in piece]
    return len(own) == ties - len(piece) + 2
