"""First comings: the shortest rows that end with a move, also without another one, and what a move needs."""

from unfoldnet.nets import Net
from unfoldnet.play import may, shortest_row
from unfoldnet.states import names_in_turn
from unfoldnet.troops import own


def net_without(net, other):
    """The net with all its moves but one."""
    kept = [move for move in net.moves() if move != other]
    return Net([(move, net.takes(move), net.gives(move)) for move in kept], list(net.start()))


def first_of(grown, move):
    """A row that ends with a move, with as few moves as any; None where no row has the move."""
    grown.net().must_have(move)
    for number, occurrence in enumerate(grown.occurrence_tuples):
        if occurrence[0] == move:
            # Own troops rise with the numbers: so this is the least one of the move.
            return names_in_turn(grown, own(grown, number))
    return None


def first_without(grown, move, other):
    """A row that ends with a move, and in which another one does not stand, with as few moves as any; or None."""
    grown.net().must_have(move)
    grown.net().must_have(other)
    # The grown web does not tell it: it may stop where a state came by the other move first.
    net = net_without(grown.net(), other)
    return shortest_row(net, lambda state: move if move in may(net, state) else None)


def needs(grown, move):
    """The sorted list of the other moves without which no row has a move."""
    row = first_of(grown, move)
    others = [other for other in grown.net().moves() if other != move]
    if row is None:
        return others
    # What the one row does without is not needed.
    return [other for other in others if other in row and first_without(grown, move, other) is None]
