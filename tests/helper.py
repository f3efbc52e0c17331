"""Second ways to hold the program against: play by counting beads, webs by takers and givers; and many small nets."""

import copy
from functools import cache
from itertools import combinations, islice, product, zip_longest

from unfoldnet.grown import Grown
from unfoldnet.nets import Net
from unfoldnet.relations import comings
from unfoldnet.weaves import woven
from unfoldnet.webs import Web

NAMES = ("walk", "run", "hop")

# Nets that do not crowd, in whose webs there are causes, clashes and many side by side.
RICH_NETS = (
    "a b c; one: a > d; two: b > e; three: c > f; meet: d e > a b; rob: b c > e; home: f > c",
    "f g p q; eat: f g p > x; feast: f g q > y; rest: x > f g p; stop: y > f g q",
    "free m u; make: m free > m full; use: u full > u free; end: u >",
    "a b; spin: a > a; turn: b > b; swap: a b > b a; out: a >; leap: b > c; land: c > b",
    "a; fork: a > b c d; left: b > e; lean: b > f; mid: c > g; right: d > h; join: e g h > a; jump: f g h > a",
    "a b c d; all: a b c d > e f g h; turn: c d > d c; drop: d >; split: e > a; again: f g h > b c d; flip: a b > b a",
)

# Nets of six rings of two places each, with many stops in their grown webs.
LARGE_NETS = (
    "pa pb pc pd pe pf; ma: pk pb > pe ph; mb: pa pf > pg pl; mc: pf pk > pf pk; md: pe pl pg > pk pf pg; "
    "me: ph pd > pb pj; mf: ph pj pc > pb pd pi; mg: pe > pk; mh: pi pk > pc pe; mi: pj pg > pd pa; "
    "mj: pk pa > pk pa; mk: pj pl > pj pl; ml: pb pa pf > ph pg pf",
    "a b c d e f; ma: e j > e d; mb: i > c; mc: a > g; md: k i > k c; me: j g > j g; mf: f > l; mg: b e > h e; "
    "mh: l j > l j; mi: d c > d c; mj: d c g > j i a; mk: d > j; ml: k > e",
)

# 0 left and 1 lean clash, 2 mid is beside both; 3 join is behind 0 and 2, 4 jump behind 1 and 2; 5 again behind 3.
FORK = "a b; left: a > c; lean: a > d; mid: b > e; join: c e > a; jump: d e > f; again: a > g"
FORK_STEPS = [("left", [0]), ("lean", [0]), ("mid", [1]), ("join", [2, 4]), ("jump", [3, 4]), ("again", [5])]

# y stands behind or ahead of x, and of z; x and z are side by side.
MIDDLE = "a b c p q; x: a p > a p; y: b p q > b p q; z: c q > c q"

# Its rows go on for ever, with joins, forks, clashes and side by side.
ROUND = "a; fork: a > b c; left: b > d; lean: b > d; right: c > e; join: d e > a"

# Nets in which two troops without stops have one state, and only behind one of them the web goes on without a stop:
# the lesser by the names of its moves, or by its levels.
TWO_WAYS_NETS = (
    "a c; on: c > d; go: a > b; too: b c > b d; join: b d > e f",
    "a c; and: b c > b d; end: b d > b; on: c > d; start: a > b",
    "p q; fork: p > r; go: r q > r s; on: q > s; out: r s > t u; over: t > v; under: u >",
    "pa qa ra sa; ah: qa ra > qb ra; ai: rb sa > ra sb; f: pb qb > pb; g: pb ra > pa rb; xb: pa > pb",
)

# Nothing at all, no moves, no beads at the start, a bead too few, one bead that goes, one that stays.
BARE_NETS = ("", "b a", "; go: a > b", "a; go: a b > c", "a; end: a >", "a; stay: a > a")


def some_of(places, least):
    """All lists of at least so many of the places, told from the last place on."""
    return [list(reversed(some))
            for size in range(least, len(places) + 1)
            for some in combinations(places, size)]


def small_nets(places, moves, step):
    """Every `step`-th (moves, start) of all with so many moves over these places."""
    ways = list(product(some_of(places, 1), some_of(places, 0)))
    starts = some_of(places, 0)
    whole = len(ways) ** moves * len(starts)
    for number in range(0, whole, step):
        start = starts[number % len(starts)]
        number = number // len(starts)
        made = []
        for name in NAMES[:moves]:
            takes, gives = ways[number % len(ways)]
            number = number // len(ways)
            made.append((name, list(takes), list(gives)))
        yield made, list(start)


def counted(moves, state, name):
    """What comes of one move: a state, or the name of the refusal."""
    table = {move[0]: move for move in moves}
    if name not in table:
        return "NoMove"
    beads = {place: 1 for place in state}
    for place in table[name][1]:
        beads[place] = beads.get(place, 0) - 1
    if min(beads.values(), default=0) < 0:
        return "Held"
    for place in table[name][2]:
        beads[place] = beads.get(place, 0) + 1
    if max(beads.values(), default=0) > 1:
        return "Full"
    return tuple(sorted(place for place in beads if beads[place]))


def counted_row(moves, start, row):
    """The list of the states, or the name of the refusal and its number in the row."""
    states = [tuple(sorted(start))]
    for at, name in enumerate(row):
        outcome = counted(moves, states[-1], name)
        if isinstance(outcome, str):
            return outcome, at
        states.append(outcome)
    return states


def counted_crowding(moves, start, places):
    """The length of the shortest row whose last move alone is refused, with Full; or None."""
    layer = {tuple(sorted(start))}
    # A shortest way comes by no state twice, so there are no more layers than states.
    for length in range(1, 2 ** len(places) + 1):
        outcomes = {counted(moves, state, move[0]) for state in layer for move in moves}
        if "Full" in outcomes:
            return length
        layer = {outcome for outcome in outcomes if isinstance(outcome, tuple)}
    return None


def outcome_of(call):
    """What a call tells, or the name of its refusal and the value `at`."""
    try:
        return call()
    except ValueError as refusal:
        return type(refusal).__name__, refusal.at


def net_of(text):
    """A net of a text like `a b; go: a b > c`, the first part being the start."""
    start, *parts = text.split(";")
    moves = []
    for part in parts:
        name, lists = part.split(":")
        takes, gives = lists.split(">")
        moves.append((name.strip(), takes.split(), gives.split()))
    return Net(moves, start.split())


def refusal_of(call):
    """The name of the refusal of a call, with its values; None where it is not refused."""
    try:
        call()
    except ValueError as refusal:
        return type(refusal).__name__, vars(refusal)
    return None


def told_by(web):
    """All that a web tells by itself."""
    return web.spots(), web.occurrences()


def counted_causes(web, one):
    """The set of the causes of an occurrence, walked from taken spots to their givers."""
    spots, occurrences = told_by(web)
    found, todo = set(), [one]
    while todo:
        for spot in occurrences[todo.pop()][1]:
            giver = spots[spot][1]
            if giver is not None and giver not in found:
                found.add(giver)
                todo.append(giver)
    return found


def counted_clashes(web, one, other):
    """All (first, second, spot) by which two occurrences clash."""
    if one == other:
        return []
    occurrences = web.occurrences()
    return [(first, second, spot)
            for first in counted_causes(web, one) | {one}
            for second in counted_causes(web, other) | {other}
            for spot in occurrences[first][1]
            if first != second and spot in occurrences[second][1]]


def counted_words(web, one, other):
    """All of the five words that hold of two occurrences."""
    words = []
    if one == other:
        words.append("same")
    if one in counted_causes(web, other):
        words.append("before")
    if other in counted_causes(web, one):
        words.append("behind")
    if counted_clashes(web, one, other):
        words.append("clash")
    return words or ["beside"]


def taken_ahead(web, spot, giver):
    """Whether a giver, or a cause of it, takes the spot."""
    if giver is None:
        return False
    occurrences = web.occurrences()
    return any(spot in occurrences[taker][1] for taker in counted_causes(web, giver) | {giver})


def counted_beside(web, one, other):
    """Whether two spots are side by side."""
    if one == other:
        return False
    givers = [web.spots()[spot][1] for spot in (one, other)]
    if None not in givers and counted_clashes(web, *givers):
        return False
    return not taken_ahead(web, one, givers[1]) and not taken_ahead(web, other, givers[0])


def counted_come(web, move, spots):
    """What comes of a coming: the names of the refusals that may be told, each with its values; [] where it comes."""
    net, (told, occurrences) = web.net(), told_by(web)
    if move not in net.moves():
        return [("NoMove", {"at": 0})]
    if any(spot not in range(len(told)) for spot in spots):
        return [("NoSpot", {})]
    if sorted(told[spot][0] for spot in spots) != net.takes(move):
        return [("Misfit", {})]
    apart = [pair for pair in combinations(sorted(spots), 2) if not counted_beside(web, *pair)]
    if apart:
        return [("Apart", {"one": one, "other": other}) for one, other in apart]
    occurrence = (move, tuple(sorted(spots)))
    return [("Twice", {"number": number}) for number, there in enumerate(occurrences) if there == occurrence]


def counted_comings(web):
    """All (move, spots) that may come, of all moves with all tuples of spots."""
    numbers = range(len(web.spots()))
    return sorted((move, spots)
                  for move in web.net().moves()
                  for spots in combinations(numbers, len(web.net().takes(move)))
                  if not counted_come(web, move, spots))


def is_troop(web, some):
    """Whether a list of occurrences has all their causes, and no two that clash."""
    return (all(counted_causes(web, one) <= set(some) for one in some)
            and not any(counted_clashes(web, *pair) for pair in combinations(some, 2)))


def web_by_hand(net, most, stride):
    """A web of at most so many occurrences, of those that may come each time another one, as the stride tells."""
    web = Web(net)
    for number in range(most):
        free = counted_comings(web)
        if not free:
            break
        move, spots = free[number * stride % len(free)]
        web.come(move, list(spots))
    return web


def small_webs(places, moves, step, most):
    """Webs of those of the small nets that do not crowd, grown by hand in unlike ways."""
    for number, (made, start) in enumerate(small_nets(places, moves, step)):
        if counted_crowding(made, start, places) is None:
            yield web_by_hand(Net(made, start), most, number % 5)


def rich_webs(most):
    """Webs of the rich nets, each grown by hand in some unlike ways."""
    for text in RICH_NETS:
        for stride in (0, 1, 3, 7):
            yield web_by_hand(net_of(text), most, stride)


def web_of(text, steps):
    """The web of a net's text, behind these comings."""
    web = Web(net_of(text))
    for move, spots in steps:
        web.come(move, list(spots))
    return web


def web_again(web):
    """Another web of the same net, behind the same comings."""
    other = Web(web.net())
    for move, spots in web.occurrences():
        other.come(move, list(spots))
    return other


def fork():
    """The web of FORK behind its steps."""
    return web_of(FORK, FORK_STEPS)


def parts_of(net):
    """The lists of which a net like this one is made."""
    return [(move, net.takes(move), net.gives(move)) for move in net.moves()], list(net.start())


def ring_net(seed, rings, size, moves):
    """A net of some rings of places, in each of them a bead: so it does not crowd. Its moves are cast by the seed."""
    def cast(sides):
        nonlocal seed
        seed = (seed * 6364136223846793005 + 1442695040888963407) % 2 ** 64
        return (seed >> 33) % sides

    made = []
    for letter in "bcdefghijklm"[:moves]:
        some = sorted({cast(rings) for ring in range(1 + cast(3))})
        takes = ["pqrs"[ring] + "abc"[cast(size)] for ring in some]
        # A bead goes for good now and then.
        gives = ["pqrs"[ring] + "abc"[cast(size)] for ring in some if cast(30)]
        made.append((("", "a", "x")[cast(3)] + letter, takes, gives))
    return Net(made, ["pqrs"[ring] + "a" for ring in range(rings)])


def ring_nets(count):
    """Nets of two to four rings, of two or three places each, with eight to twelve moves."""
    return [ring_net(seed, 2 + seed % 3, 2 + seed % 2, 8 + seed % 5) for seed in range(count)]


def free_nets(places, moves, step):
    """Those of the small nets that do not crowd."""
    return [Net(made, start) for made, start in small_nets(places, moves, step)
            if counted_crowding(made, start, places) is None]


def counted_steps(net):
    """For each state that a net can come to a dict: the moves that may be done there, with the states behind them."""
    moves, start = parts_of(net)
    steps, todo = {}, [tuple(start)]
    while todo:
        state = todo.pop()
        if state not in steps:
            outcomes = {move[0]: counted(moves, state, move[0]) for move in moves}
            steps[state] = {move: behind for move, behind in outcomes.items() if isinstance(behind, tuple)}
            todo.extend(steps[state].values())
    return steps


def counted_states(net):
    """The set of all states that a net can come to."""
    return set(counted_steps(net))


def counted_reach(steps, state):
    """For each state to which rows lead from a state, how many moves the shortest of these has."""
    reach, layer = {state: 0}, [state]
    while layer:
        layer = [behind for one in layer for behind in steps[one].values() if behind not in reach]
        reach.update({behind: max(reach.values()) + 1 for behind in layer})
    return reach


@cache
def nets_of_many_sorts():
    """Nets that do not crowd: bare ones, rich and large ones, small ones, and some of rings."""
    texts = BARE_NETS + RICH_NETS + LARGE_NETS + TWO_WAYS_NETS + (FORK, MIDDLE, ROUND)
    return ([net_of(text) for text in texts] + free_nets("ab", 2, 3) + free_nets("abc", 2, 97)
            + free_nets("abc", 3, 2999) + ring_nets(70))


def turned(net):
    """Nets like this one, made of lists in other orders."""
    moves, start = parts_of(net)
    others = [(name, takes[::-1], gives[1:] + gives[:1]) for name, takes, gives in moves]
    return [Net(others[::-1], start[::-1]), Net(others[1:] + others[:1], start[1:] + start[:1])]


def rows_to_play(net, longest):
    """All rows of at most so many moves that can be played, the shorter ones first."""
    moves, start = parts_of(net)
    rows, todo = [], [([], tuple(start))]
    while todo:
        rows.extend(row for row, state in todo)
        steps = [(row + [move[0]], counted(moves, state, move[0])) for row, state in todo for move in moves]
        todo = [(row, outcome) for row, outcome in steps if isinstance(outcome, tuple) and len(row) <= longest]
    return rows


def counted_own(web, one):
    """The own troop of an occurrence."""
    return sorted(counted_causes(web, one) | {one})


def all_troops(web):
    """All troops of a web: each comes of a lesser one by an occurrence with a greater number than any in it."""
    numbers = range(len(web.occurrences()))
    ahead = [counted_causes(web, one) for one in numbers]
    clashing = [{other for other in numbers if counted_clashes(web, one, other)} for one in numbers]
    troops = [[]]
    for troop in troops:
        for one in numbers[troop[-1] + 1 if troop else 0:]:
            if ahead[one] <= set(troop) and not clashing[one] & set(troop):
                troops.append(troop + [one])
    return troops


def orders_of(web, troop):
    """All orders of a troop in which each occurrence stands behind its causes."""
    if not troop:
        yield []
    for one in troop:
        if not any(one in counted_causes(web, other) for other in troop):
            for order in orders_of(web, [other for other in troop if other != one]):
                yield order + [one]


def some_orders(web, troop, most):
    """At most so many of the orders of a troop, each as a row of moves."""
    return [[web.occurrences()[one][0] for one in order] for order in islice(orders_of(web, troop), most)]


def counted_cut(web, troop):
    """The rising list of the spots that are there and not taken."""
    spots, occurrences = told_by(web)
    taken = [spot for one in troop for spot in occurrences[one][1]]
    return [number for number, (place, giver) in enumerate(spots)
            if (giver is None or giver in troop) and number not in taken]


def counted_state(web, troop):
    """The places of a cut, as a state."""
    return tuple(sorted(web.spots()[spot][0] for spot in counted_cut(web, troop)))


def counted_going_on(web, troop):
    """The rising list of those that are not in a troop and take spots of its cut alone."""
    left = counted_cut(web, troop)
    return [number for number, (move, spots) in enumerate(web.occurrences())
            if number not in troop and all(spot in left for spot in spots)]


def counted_levels(web, troop):
    """The levels of a troop, each as the greatest of its causes' levels and one more."""
    level = {}
    for one in troop:
        level[one] = max((level[cause] for cause in counted_causes(web, one)), default=0) + 1
    return [[one for one in troop if level[one] == number] for number in range(1, max(level.values(), default=0) + 1)]


def names_of(web, some):
    """The sorted list of the names of the moves of some occurrences."""
    return sorted(web.occurrences()[one][0] for one in some)


def counted_less(web, one, other):
    """Whether the first of two troops is less, by the three ways in their order."""
    if len(one) != len(other):
        return len(one) < len(other)
    if names_of(web, one) != names_of(web, other):
        return names_of(web, one) < names_of(web, other)
    for some, others in zip_longest(counted_levels(web, one), counted_levels(web, other), fillvalue=[]):
        first, second = names_of(web, some), names_of(web, others)
        if first != second:
            return len(first) < len(second) or len(first) == len(second) and first < second
    return False


def least_coming(web, partners):
    """Of all that may come and take no spot that a stop gave, the one with the least own troop; None where none may."""
    spots = web.spots()
    free = [coming for coming in comings(web) if not any(spots[spot][1] in partners for spot in coming[1])]
    trial = web_again(web)
    troops = [counted_own(trial, trial.come(move, list(taken))) for move, taken in free]
    least = [coming for coming, troop in zip(free, troops)
             if all(counted_less(trial, troop, other) for other in troops if other != troop)]
    assert len(least) == (1 if free else 0), (free, least)
    return least[0] if free else None


def counted_grown(net):
    """The web that grows by the document's words, step by step, and the dict of its stops with their partners."""
    web, partners, states = Web(net), {}, []
    coming = least_coming(web, partners)
    while coming is not None:
        number = web.come(coming[0], list(coming[1]))
        state = counted_state(web, counted_own(web, number))
        if state == net.start():
            partners[number] = None
        elif state in states:
            partners[number] = states.index(state)
        states.append(state)
        coming = least_coming(web, partners)
    return web, partners


def counted_weave(net, row):
    """The spots and the occurrences of a row that can be played, each bead's spot being kept by its place."""
    spots = [(place, None) for place in net.start()]
    there = {place: number for number, (place, giver) in enumerate(spots)}
    occurrences = []
    for number, move in enumerate(row):
        occurrences.append((move, tuple(sorted(there.pop(place) for place in net.takes(move)))))
        for place in net.gives(move):
            there[place] = len(spots)
            spots.append((place, number))
    return spots, occurrences


def counted_exchanges(net, row):
    """All (at, other): other comes of a row by exchanging the neighbours at and at + 1, which are side by side."""
    spots, occurrences = counted_weave(net, row)
    return [(at, row[:at] + [row[at + 1], row[at]] + row[at + 2:]) for at in range(len(row) - 1)
            if not any(spots[spot][1] == at for spot in occurrences[at + 1][1])]


def counted_alike(net, row):
    """For each row, a tuple, that comes of a row by exchanges, by how few of them it does."""
    found, todo = {tuple(row): 0}, [list(row)]
    for one in todo:
        for at, other in counted_exchanges(net, one):
            if tuple(other) not in found:
                found[tuple(other)] = found[tuple(one)] + 1
                todo.append(other)
    return found


def grown_and_woven_webs(most):
    """Webs that were not grown by hand: grown webs of at most so many occurrences, and woven rows."""
    nets = [net_of(text) for text in RICH_NETS] + ring_nets(30)
    grown = [web for web in [Grown(net) for net in nets] if 0 < len(web.occurrences()) <= most]
    return grown + [woven(net, rows_to_play(net, 5)[-1]) for net in nets]


def last_state(case, net, row, fewest):
    """The state to which a row leads that must have so many moves; None where None must be told, and is."""
    place = (parts_of(net), row, fewest)
    if fewest is None:
        case.assertIsNone(row, place)
        return None
    case.assertIs(type(row), list, place)
    case.assertEqual(len(row), fewest, place)
    states = counted_row(*parts_of(net), row)
    case.assertIsInstance(states, list, place)
    return states[-1]


class RowsRefused:
    """Tests of what is woven of rows; `asks(net, row)` tells all calls that must be refused where the row is."""

    def refused(self, net, row, refusal):
        kept = list(row)
        for ask in self.asks(net, row):
            self.assertEqual(outcome_of(ask), refusal, (parts_of(net), row))
        self.assertEqual(row, kept)

    def test_no_move_and_held(self):
        net = net_of(FORK)
        self.refused(net, ["nowhere"], ("NoMove", 0))
        self.refused(net, ["a"], ("NoMove", 0))
        self.refused(net, [""], ("NoMove", 0))
        self.refused(net, ["left", "mid", "JOIN"], ("NoMove", 2))
        self.refused(net, ["join"], ("Held", 0))
        self.refused(net, ["left", "lean"], ("Held", 1))
        self.refused(net, ["left", "mid", "join", "mid"], ("Held", 3))
        self.refused(Net([], []), ["go"], ("NoMove", 0))

    def test_the_first_refusal_is_the_row_s(self):
        net = net_of(FORK)
        self.refused(net, ["left", "lean", "nowhere"], ("Held", 1))
        self.refused(net, ["left", "nowhere", "lean"], ("NoMove", 1))

    def test_all_short_rows_as_counted(self):
        kinds = set()
        for net in [net_of(ROUND), net_of(MIDDLE), net_of(FORK)] + free_nets("ab", 2, 37):
            for size in range(4):
                for row in product(net.moves() + ["no"], repeat=size):
                    outcome = counted_row(*parts_of(net), list(row))
                    if isinstance(outcome, tuple):
                        self.refused(net, list(row), outcome)
                        kinds.add(outcome[0])
                    else:
                        self.assertEqual([refusal_of(ask) for ask in self.asks(net, list(row)) if refusal_of(ask)], [])
        self.assertEqual(kinds, {"NoMove", "Held"})

    def test_a_net_that_crowds(self):
        for text, row in (("a b; go: a > b", ["go"]), ("a c; go: a > b; on: b > c", ["go", "on"])):
            for ask in self.asks(net_of(text), []):
                self.assertEqual(refusal_of(ask), ("Crowded", {"row": row}))

    def test_crowded_goes_ahead_of_the_others(self):
        net = net_of("a b c; go: a > b; on: c > d; held: d > e")
        for row in ([], ["on"], ["nowhere"], ["held"], ["on", "nowhere"], ["go"], ["on", "go"]):
            for ask in self.asks(net, row):
                self.assertEqual(refusal_of(ask), ("Crowded", {"row": ["go"]}))

    def test_small_nets_that_crowd(self):
        for made, start in small_nets("abc", 2, 997):
            size = counted_crowding(made, start, "abc")
            for ask in self.asks(Net(made, start), ["no"]):
                refusal = refusal_of(ask)
                if size is None:
                    self.assertEqual(refusal, ("NoMove", {"at": 0}))
                else:
                    self.assertEqual((refusal[0], len(refusal[1]["row"])), ("Crowded", size))
                    self.assertEqual(counted_row(made, start, refusal[1]["row"]), ("Full", size - 1))


def spoilt(value):
    """Changes all lists that are told, and those within them."""
    if isinstance(value, (list, tuple)):
        for part in value:
            spoilt(part)
    if isinstance(value, list):
        value.reverse()
        value.append("spoilt")
        value[0] = "spoilt"


class GrownAskedAgain:
    """Tests of what is told of grown webs; `answers(grown)` tells it all, `texts` are those of some nets."""

    def test_told_lists_changed_between(self):
        for text in BARE_NETS + RICH_NETS + LARGE_NETS + TWO_WAYS_NETS + (MIDDLE, ROUND):
            grown = Grown(net_of(text))
            before = copy.deepcopy((self.answers(grown), told_by(grown), grown.stops(), parts_of(grown.net())))
            for turn in range(2):
                spoilt(self.answers(grown))
                self.assertEqual((self.answers(grown), told_by(grown), grown.stops(), parts_of(grown.net())), before)

    def test_grown_webs_by_turns_and_nets_in_other_orders(self):
        nets = [net_of(text) for text in self.texts] + ring_nets(40)
        grown = [Grown(net) for net in nets]
        before = [copy.deepcopy(self.answers(one)) for one in grown]
        for net, one, told in reversed(list(zip(nets, grown, before))):
            for other in [one] + [Grown(like) for like in turned(net)]:
                self.assertEqual(self.answers(other), told, parts_of(net))
