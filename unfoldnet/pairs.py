"""Two moves that meet: states in which both may be done, side by side or as rivals."""

from unfoldnet.states import open_moves, row_to


def take_from_one(net, one, other):
    """Whether there is a place from which both moves take."""
    taken = net.takes(other)
    return any([place in taken for place in net.takes(one)])


def meeting(grown, one, other):
    """A row to a state in which both moves may be done, with as few moves as any; None where there is none."""
    # The desk may ask it of one move twice: no move meets itself.
    if one == other:
        return None
    # The states are kept with the nearest ones first.
    for state in grown.troop_by_state:
        there = open_moves(grown, state)
        if one in there and other in there:
            return row_to(grown, state)
    return None


def beside(grown, one, other):
    """A row to a state in which two unlike moves are side by side, with as few moves as any; or None."""
    if take_from_one(grown.net(), one, other):
        return None
    return meeting(grown, one, other)


def rivals(grown, one, other):
    """A row to a state in which two unlike moves are rivals, with as few moves as any; or None."""
    if not take_from_one(grown.net(), one, other):
        return None
    return meeting(grown, one, other)
