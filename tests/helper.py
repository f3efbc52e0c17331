"""Second ways to hold the program against: play by counting beads, webs by takers and givers; and many small nets."""

from itertools import combinations, product

from unfoldnet.nets import Net
from unfoldnet.webs import Web

NAMES = ("walk", "run", "hop")

# Nets that do not crowd, in whose webs there are causes, clashes and many side by side.
RICH_NETS = (
    "a b c; one: a > d; two: b > e; three: c > f; meet: d e > a b; rob: b c > e; home: f > c",
    "f g p q; eat: f g p > x; feast: f g q > y; rest: x > f g p; stop: y > f g q",
    "free m u; make: m free > m full; use: u full > u free; end: u >",
    "a b; spin: a > a; turn: b > b; swap: a b > b a; out: a >; leap: b > c; land: c > b",
    "a; fork: a > b c d; left: b > e; lean: b > f; mid: c > g; right: d > h; join: e g h > a; jump: f g h > a",
    "a b c d; all: a b c d > e f g h; turn: c d > d c; drop: d >; split: e > a; again: f g h > b c d; flip: a b > b a",
)

# 0 left and 1 lean clash, 2 mid is beside both; 3 join is behind 0 and 2, 4 jump behind 1 and 2; 5 again behind 3.
FORK = "a b; left: a > c; lean: a > d; mid: b > e; join: c e > a; jump: d e > f; again: a > g"
FORK_STEPS = [("left", [0]), ("lean", [0]), ("mid", [1]), ("join", [2, 4]), ("jump", [3, 4]), ("again", [5])]


def some_of(places, least):
    """All lists of at least so many of the places, told from the last place on."""
    return [list(reversed(some))
            for size in range(least, len(places) + 1)
            for some in combinations(places, size)]


def small_nets(places, moves, step):
    """Every `step`-th (moves, start) of all with so many moves over these places."""
    ways = list(product(some_of(places, 1), some_of(places, 0)))
    starts = some_of(places, 0)
    whole = len(ways) ** moves * len(starts)
    for number in range(0, whole, step):
        start = starts[number % len(starts)]
        number = number // len(starts)
        made = []
        for name in NAMES[:moves]:
            takes, gives = ways[number % len(ways)]
            number = number // len(ways)
            made.append((name, list(takes), list(gives)))
        yield made, list(start)


def counted(moves, state, name):
    """What comes of one move: a state, or the name of the refusal."""
    table = {move[0]: move for move in moves}
    if name not in table:
        return "NoMove"
    beads = {place: 1 for place in state}
    for place in table[name][1]:
        beads[place] = beads.get(place, 0) - 1
    if min(beads.values(), default=0) < 0:
        return "Held"
    for place in table[name][2]:
        beads[place] = beads.get(place, 0) + 1
    if max(beads.values(), default=0) > 1:
        return "Full"
    return tuple(sorted(place for place in beads if beads[place]))


def counted_row(moves, start, row):
    """The list of the states, or the name of the refusal and its number in the row."""
    states = [tuple(sorted(start))]
    for at, name in enumerate(row):
        outcome = counted(moves, states[-1], name)
        if isinstance(outcome, str):
            return outcome, at
        states.append(outcome)
    return states


def counted_crowding(moves, start, places):
    """The length of the shortest row whose last move alone is refused, with Full; or None."""
    layer = {tuple(sorted(start))}
    # A shortest way comes by no state twice, so there are no more layers than states.
    for length in range(1, 2 ** len(places) + 1):
        outcomes = {counted(moves, state, move[0]) for state in layer for move in moves}
        if "Full" in outcomes:
            return length
        layer = {outcome for outcome in outcomes if isinstance(outcome, tuple)}
    return None


def outcome_of(call):
    """What a call tells, or the name of its refusal and the value `at`."""
    try:
        return call()
    except ValueError as refusal:
        return type(refusal).__name__, refusal.at


def net_of(text):
    """A net of a text like `a b; go: a b > c`, the first part being the start."""
    start, *parts = text.split(";")
    moves = []
    for part in parts:
        name, lists = part.split(":")
        takes, gives = lists.split(">")
        moves.append((name.strip(), takes.split(), gives.split()))
    return Net(moves, start.split())


def refusal_of(call):
    """The name of the refusal of a call, with its values; None where it is not refused."""
    try:
        call()
    except ValueError as refusal:
        return type(refusal).__name__, vars(refusal)
    return None


def told_by(web):
    """All that a web tells by itself."""
    return web.spots(), web.occurrences()


def counted_causes(web, one):
    """The set of the causes of an occurrence, walked from taken spots to their givers."""
    spots, occurrences = told_by(web)
    found, todo = set(), [one]
    while todo:
        for spot in occurrences[todo.pop()][1]:
            giver = spots[spot][1]
            if giver is not None and giver not in found:
                found.add(giver)
                todo.append(giver)
    return found


def counted_clashes(web, one, other):
    """All (first, second, spot) by which two occurrences clash."""
    if one == other:
        return []
    occurrences = web.occurrences()
    return [(first, second, spot)
            for first in counted_causes(web, one) | {one}
            for second in counted_causes(web, other) | {other}
            for spot in occurrences[first][1]
            if first != second and spot in occurrences[second][1]]


def counted_words(web, one, other):
    """All of the five words that hold of two occurrences."""
    words = []
    if one == other:
        words.append("same")
    if one in counted_causes(web, other):
        words.append("before")
    if other in counted_causes(web, one):
        words.append("behind")
    if counted_clashes(web, one, other):
        words.append("clash")
    return words or ["beside"]


def taken_ahead(web, spot, giver):
    """Whether a giver, or a cause of it, takes the spot."""
    if giver is None:
        return False
    occurrences = web.occurrences()
    return any(spot in occurrences[taker][1] for taker in counted_causes(web, giver) | {giver})


def counted_beside(web, one, other):
    """Whether two spots are side by side."""
    if one == other:
        return False
    givers = [web.spots()[spot][1] for spot in (one, other)]
    if None not in givers and counted_clashes(web, *givers):
        return False
    return not taken_ahead(web, one, givers[1]) and not taken_ahead(web, other, givers[0])


def counted_come(web, move, spots):
    """What comes of a coming: the names of the refusals that may be told, each with its values; [] where it comes."""
    net, (told, occurrences) = web.net(), told_by(web)
    if move not in net.moves():
        return [("NoMove", {"at": 0})]
    if any(spot not in range(len(told)) for spot in spots):
        return [("NoSpot", {})]
    if sorted(told[spot][0] for spot in spots) != net.takes(move):
        return [("Misfit", {})]
    apart = [pair for pair in combinations(sorted(spots), 2) if not counted_beside(web, *pair)]
    if apart:
        return [("Apart", {"one": one, "other": other}) for one, other in apart]
    occurrence = (move, tuple(sorted(spots)))
    return [("Twice", {"number": number}) for number, there in enumerate(occurrences) if there == occurrence]


def counted_comings(web):
    """All (move, spots) that may come, of all moves with all tuples of spots."""
    numbers = range(len(web.spots()))
    return sorted((move, spots)
                  for move in web.net().moves()
                  for spots in combinations(numbers, len(web.net().takes(move)))
                  if not counted_come(web, move, spots))


def is_troop(web, some):
    """Whether a list of occurrences has all their causes, and no two that clash."""
    return (all(counted_causes(web, one) <= set(some) for one in some)
            and not any(counted_clashes(web, *pair) for pair in combinations(some, 2)))


def web_by_hand(net, most, stride):
    """A web of at most so many occurrences, of those that may come each time another one, as the stride tells."""
    web = Web(net)
    for number in range(most):
        free = counted_comings(web)
        if not free:
            break
        move, spots = free[number * stride % len(free)]
        web.come(move, list(spots))
    return web


def small_webs(places, moves, step, most):
    """Webs of those of the small nets that do not crowd, grown by hand in unlike ways."""
    for number, (made, start) in enumerate(small_nets(places, moves, step)):
        if counted_crowding(made, start, places) is None:
            yield web_by_hand(Net(made, start), most, number % 5)


def rich_webs(most):
    """Webs of the rich nets, each grown by hand in some unlike ways."""
    for text in RICH_NETS:
        for stride in (0, 1, 3, 7):
            yield web_by_hand(net_of(text), most, stride)


def web_of(text, steps):
    """The web of a net's text, behind these comings."""
    web = Web(net_of(text))
    for move, spots in steps:
        web.come(move, list(spots))
    return web


def web_again(web):
    """Another web of the same net, behind the same comings."""
    other = Web(web.net())
    for move, spots in web.occurrences():
        other.come(move, list(spots))
    return other


def fork():
    """The web of FORK behind its steps."""
    return web_of(FORK, FORK_STEPS)
