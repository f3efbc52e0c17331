"""A second way to play nets, by counting beads, to hold the program against; and many small nets."""

from itertools import combinations, product

from unfoldnet.nets import Net

NAMES = ("walk", "run", "hop")


def some_of(places, least):
    """All lists of at least so many of the places, told from the last place on."""
    return [list(reversed(some))
            for size in range(least, len(places) + 1)
            for some in combinations(places, size)]


def small_nets(places, moves, step):
    """Every `step`-th (moves, start) of all with so many moves over these places."""
    ways = list(product(some_of(places, 1), some_of(places, 0)))
    starts = some_of(places, 0)
    whole = len(ways) ** moves * len(starts)
    for number in range(0, whole, step):
        start = starts[number % len(starts)]
        number = number // len(starts)
        made = []
        for name in NAMES[:moves]:
            takes, gives = ways[number % len(ways)]
            number = number // len(ways)
            made.append((name, list(takes), list(gives)))
        yield made, list(start)


def counted(moves, state, name):
    """What comes of one move: a state, or the name of the refusal."""
    table = {move[0]: move for move in moves}
    if name not in table:
        return "NoMove"
    beads = {place: 1 for place in state}
    for place in table[name][1]:
        beads[place] = beads.get(place, 0) - 1
    if min(beads.values(), default=0) < 0:
        return "Held"
    for place in table[name][2]:
        beads[place] = beads.get(place, 0) + 1
    if max(beads.values(), default=0) > 1:
        return "Full"
    return tuple(sorted(place for place in beads if beads[place]))


def counted_row(moves, start, row):
    """The list of the states, or the name of the refusal and its number in the row."""
    states = [tuple(sorted(start))]
    for at, name in enumerate(row):
        outcome = counted(moves, states[-1], name)
        if isinstance(outcome, str):
            return outcome, at
        states.append(outcome)
    return states


def counted_crowding(moves, start, places):
    """The length of the shortest row whose last move alone is refused, with Full; or None."""
    layer = {tuple(sorted(start))}
    # A shortest way comes by no state twice, so there are no more layers than states.
    for length in range(1, 2 ** len(places) + 1):
        outcomes = {counted(moves, state, move[0]) for state in layer for move in moves}
        if "Full" in outcomes:
            return length
        layer = {outcome for outcome in outcomes if isinstance(outcome, tuple)}
    return None


def outcome_of(call):
    """What a call tells, or the name of its refusal and the value `at`."""
    try:
        return call()
    except ValueError as refusal:
        return type(refusal).__name__, refusal.at


def net_of(text):
    """A net of a text like `a b; go: a b > c`, the first part being the start."""
    start, *parts = text.split(";")
    moves = []
    for part in parts:
        name, lists = part.split(":")
        takes, gives = lists.split(">")
        moves.append((name.strip(), takes.split(), gives.split()))
    return Net(moves, start.split())
