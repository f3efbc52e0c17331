"""Rows that are alike: the exchanges that lead from one to another, and all rows alike to one."""

from unfoldnet.errors import TooMany
from unfoldnet.weaves import row_levels, woven

MOST_ROWS = 300


def side_by_side(net, earlier, later):
    """Whether the later of two neighbours of a row takes no spot that the earlier one gave."""
    # What the earlier one gave lies there still: so the later one takes of it wherever it takes from such a place.
    given = net.gives(earlier)
    return not any([place in given for place in net.takes(later)])


def exchanged(row, at):
    """The row with the moves at a number and at the next one exchanged."""
    return row[:at] + [row[at + 1], row[at]] + row[at + 2:]


def exchanges(net, row, other):
    """The fewest exchanges that lead from a row to another, or None where the two are not alike."""
    if row_levels(net, row) != row_levels(net, other):
        return None
    told = []
    now = row
    for at, move in enumerate(other):
        # Two occurrences of a move are never side by side: so the first one that is left is the one to be fetched.
        while now[at] != move:
            number = now.index(move, at) - 1
            told.append(number)
            now = exchanged(now, number)
    return told


def rows_of(net, row):
    """The rising list of all rows that are alike to a row."""
    # Weaving refuses what no row can be told of.
    woven(net, row)
    found = {tuple(row): True}
    todo = [row]
    while todo:
        now = todo.pop()
        for at in range(len(now) - 1):
            if side_by_side(net, now[at], now[at + 1]):
                other = exchanged(now, at)
                if tuple(other) not in found:
                    found[tuple(other)] = True
                    todo.append(other)
        if len(found) > MOST_ROWS:
            raise TooMany()
    return [list(kept) for kept in sorted(found)]
