"""States: all that a net can come to, the rows that lead there, and what may be done there."""

from unfoldnet.cuts import going_on
from unfoldnet.errors import NoPlace


def must_be_places(net, texts):
    """Refuses texts one of which is no place of the net."""
    places = net.places()
    for text in texts:
        if text not in places:
            raise NoPlace()


def names_in_turn(grown, some):
    """The names of the moves of some occurrences, in their order."""
    return [grown.occurrence_tuples[one][0] for one in some]


def all_states(grown):
    """The rising list of all states that the net can come to."""
    return sorted(grown.troop_by_state)


def row_to(grown, state):
    """A row that leads to a state, with as few moves as any; None where none does."""
    must_be_places(grown.net(), state)
    if state not in grown.troop_by_state:
        return None
    # The least troop has as few occurrences as any with its state; by their numbers causes stand ahead.
    return names_in_turn(grown, grown.troop_by_state[state])


def holds(grown, places):
    """A troop without stops in whose state all of the places have a bead; None where no state has them all."""
    must_be_places(grown.net(), places)
    for state, troop in grown.troop_by_state.items():
        if all([place in state for place in places]):
            return list(troop)
    return None


def open_moves(grown, state):
    """The sorted list of the moves that may be done in a state; None where the net can't come to it."""
    must_be_places(grown.net(), state)
    if state not in grown.troop_by_state:
        return None
    return sorted(names_in_turn(grown, going_on(grown, grown.troop_by_state[state])))
