"""Nets: places that have beads, and moves that take and give them."""

from unfoldnet.errors import NoMove, NoNet
from unfoldnet.names import is_name

MOST_PLACES = 12
MOST_MOVES = 12
LEAST_TAKEN = 1
MOST_TAKEN = 4
MOST_GIVEN = 4


def are_unlike_names(things):
    """Whether all things of a list are names and none of them stands twice."""
    return all([is_name(thing) for thing in things]) and len(set(things)) == len(things)


def is_move(taken, given):
    """Whether a move may take from and give to these lists of places."""
    if not are_unlike_names(taken) or not are_unlike_names(given):
        return False
    return LEAST_TAKEN <= len(taken) <= MOST_TAKEN and len(given) <= MOST_GIVEN


def places_of(moves, start):
    """The rising list of all places that stand in any of the lists."""
    places = list(start)
    for name, taken, given in moves:
        places = places + list(taken) + list(given)
    return sorted(set(places))


def makes_net(moves, start):
    """Whether a net can be made of these moves and this start."""
    if len(moves) > MOST_MOVES or not are_unlike_names([move[0] for move in moves]):
        return False
    if not all([is_move(taken, given) for name, taken, given in moves]) or not are_unlike_names(start):
        return False
    return len(places_of(moves, start)) <= MOST_PLACES


class Net:
    """A net; it keeps tuples alone, so that nothing from outside can change it."""

    def __init__(self, moves, start):
        if not makes_net(moves, start):
            raise NoNet()
        self.place_names = tuple(places_of(moves, start))
        self.start_state = tuple(sorted(start))
        self.taken_by = {}
        self.given_by = {}
        for name, taken, given in moves:
            self.taken_by[name] = tuple(sorted(taken))
            self.given_by[name] = tuple(sorted(given))

    def places(self):
        """The rising list of the places."""
        return list(self.place_names)

    def moves(self):
        """The rising list of the moves' names."""
        return sorted(self.taken_by)

    def takes(self, move):
        """The rising list of the places from which a move takes."""
        self.must_have(move)
        return list(self.taken_by[move])

    def gives(self, move):
        """The rising list of the places to which a move gives."""
        self.must_have(move)
        return list(self.given_by[move])

    def start(self):
        """The state at the start."""
        return self.start_state

    def must_have(self, move):
        """Refuses what is no move of the net."""
        # What is no name is asked for first: it may be a thing that no dict can look up.
        if not is_name(move) or move not in self.taken_by:
            raise NoMove(0)
