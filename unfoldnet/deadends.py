"""Dead ends, and the moves that no row has."""

from unfoldnet.states import open_moves, row_to


def dead_end(grown):
    """A row to a state in which no move may be done, with as few moves as any; None where there is none."""
    # The states are kept with the nearest ones first.
    for state in grown.troop_by_state:
        if open_moves(grown, state) == []:
            return row_to(grown, state)
    return None


def never(grown):
    """The sorted list of the moves that no row has."""
    there = [move for move, spots in grown.occurrences()]
    return [move for move in grown.net().moves() if move not in there]
