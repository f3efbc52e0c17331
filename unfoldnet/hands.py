"""Nets that shake hands: the net of both, the halves of its rows, and rows poured together."""

from unfoldnet.errors import NoNet
from unfoldnet.nets import Net
from unfoldnet.play import played


def takes_and_gives(net, move):
    """The tuple of what a move takes and gives in a net: nothing where the net does not have it."""
    if move not in net.moves():
        return ([], [])
    return (net.takes(move), net.gives(move))


def move_of_both(one, other, move):
    """The tuple (name, takes, gives) of a move that takes what it takes in either net, and gives likewise."""
    first = takes_and_gives(one, move)
    second = takes_and_gives(other, move)
    return (move, first[0] + second[0], first[1] + second[1])


def shaken(one, other):
    """The net of two nets without a common place."""
    places = other.places()
    if any([place in places for place in one.places()]):
        raise NoNet()
    moves = sorted(set(one.moves() + other.moves()))
    return Net([move_of_both(one, other, move) for move in moves], list(one.start() + other.start()))


def half(net, row):
    """Those of the moves of a row that a net has, in their order."""
    moves = net.moves()
    return [move for move in row if move in moves]


def poured(one, other, first, second):
    """A row whose half for one net is the first row, for the other the second; None where there is none."""
    # Asked for its refusal alone, which goes ahead of those of the rows.
    shaken(one, other)
    played(one, first)
    played(other, second)
    if half(other, first) != half(one, second):
        return None
    row = []
    at = 0
    for move in first:
        if move in other.moves():
            # The second row's own moves ahead of a common one go in ahead of it; it is then told once, for both.
            common = second.index(move, at)
            row.extend(second[at:common])
            at = common + 1
        row.append(move)
    return row + second[at:]
