import copy
import importlib
import inspect
import unittest
from itertools import combinations

from helper import (FORK, MIDDLE, RICH_NETS, ROUND, TWO_WAYS_NETS, all_troops, counted_reach, counted_row,
                    counted_state, counted_steps, counted_words, net_of, parts_of, ring_net, rows_to_play,
                    some_orders, spoilt, told_by)

from unfoldnet.cuts import cut, followed, going_on, state_of
from unfoldnet.deadends import dead_end, never
from unfoldnet.desk import Desk
from unfoldnet.exchanges import exchanges, rows_of
from unfoldnet.firsts import first_of, first_without, needs
from unfoldnet.grown import Grown
from unfoldnet.hands import half, poured, shaken
from unfoldnet.names import is_name
from unfoldnet.nets import Net
from unfoldnet.nettexts import net_text, read_net
from unfoldnet.pairs import beside, rivals
from unfoldnet.play import crowding, done, may, played
from unfoldnet.ranks import less, levels
from unfoldnet.relations import causes, clash_at, comings, relation, spots_beside
from unfoldnet.rounds import lost, round_of
from unfoldnet.states import all_states, holds, open_moves, row_to
from unfoldnet.troops import flaw, own, together
from unfoldnet.weaves import row_levels, woven

INTERFACE = """
errors: NetError(), NoNet(), NoText(), NoMove(at), Held(at), Full(at), Crowded(row), NoSpot(), Misfit()
errors: Apart(one other), Twice(number), NoOccurrence(), Clash(one other), TooMany(), NoPlace(), NoRow(), NoName()
names: is_name(thing)
nets: Net(moves start), Net.places(), Net.moves(), Net.takes(move), Net.gives(move), Net.start()
play: may(net state), done(net state move), played(net row), crowding(net)
nettexts: net_text(net), read_net(text)
webs: Web(net), Web.net(), Web.spots(), Web.occurrences(), Web.come(move spots)
relations: causes(web one), relation(web one other), clash_at(web one other), spots_beside(web one other), comings(web)
troops: flaw(web some), own(web one), together(web one other)
cuts: cut(web troop), state_of(web troop), going_on(web troop), followed(web row)
ranks: levels(web troop), less(web one other)
grown: Grown(net), Grown.stops(), Grown.partner(one), Grown.net(), Grown.spots(), Grown.occurrences()
weaves: woven(net row), row_levels(net row)
exchanges: exchanges(net row other), rows_of(net row)
states: all_states(grown), row_to(grown state), holds(grown places), open_moves(grown state)
deadends: dead_end(grown), never(grown)
rounds: round_of(grown move), lost(grown)
pairs: beside(grown one other), rivals(grown one other)
firsts: first_of(grown move), first_without(grown move other), needs(grown move)
hands: shaken(one other), half(net row), poured(one other first second)
desk: Desk(), Desk.say(row)
"""

SOME_TEXTS = RICH_NETS + TWO_WAYS_NETS + (FORK, MIDDLE, ROUND)


def shown(value):
    """What a thing tells by itself, so that a change of it would show."""
    if isinstance(value, Net):
        return parts_of(value), value.places()
    if isinstance(value, Grown):
        return told_by(value), value.stops(), [value.partner(stop) for stop in value.stops()], shown(value.net())
    if hasattr(value, "occurrences"):
        return told_by(value), shown(value.net())
    return copy.deepcopy(value)


def calls_of(net, kin):
    """Functions with what is handed in, for a net that does not crowd and another one without a common place."""
    web = Grown(net)
    rows = rows_to_play(net, 3)
    row, state = list(rows[-1]), played(net, rows[-1])[-1]
    moves, last = net.moves(), len(web.occurrences()) - 1
    one, other = moves[0], moves[-1]
    troop = own(web, last)
    second = rows_to_play(kin, 3)[-1]
    calls = [
        (Net, *parts_of(net)), (is_name, one), (may, net, state), (done, net, net.start(), row[0]),
        (played, net, row), (crowding, net), (crowding, net_of("a c; go: a > b; on: b > c")), (net_text, net),
        (read_net, net_text(net)), (causes, web, last), (relation, web, 0, last), (clash_at, web, 0, last),
        (spots_beside, web, 0, 1), (comings, web), (flaw, web, [last]), (own, web, last), (together, web, [], troop),
        (together, web, troop, troop), (cut, web, troop), (state_of, web, troop), (going_on, web, []),
        (followed, web, row[:1]), (levels, web, troop), (less, web, troop, []), (Grown, net), (woven, net, row),
        (row_levels, net, row), (exchanges, net, row, row), (exchanges, net, row, rows_of(net, row)[0]),
        (rows_of, net, row), (all_states, web), (row_to, web, state), (row_to, web, net.start()),
        (holds, web, list(state)), (holds, web, []), (open_moves, web, state), (dead_end, web), (never, web),
        (round_of, web, one), (round_of, web, other), (lost, web), (beside, web, one, other),
        (rivals, web, one, other), (first_of, web, one), (first_of, web, other), (first_without, web, one, other),
        (needs, web, other), (shaken, net, kin), (half, net, row + ["no"]), (half, net, row), (half, kin, row),
        (poured, net, kin, row, second), (poured, net, kin, row, []), (poured, net, kin, [], second),
        (poured, net, kin, [], []),
    ]
    # No two of them are handed the same list.
    return [(ask, *[copy.deepcopy(value) if isinstance(value, list) else value for value in handed])
            for ask, *handed in calls]


class Interface(unittest.TestCase):
    def test_names_and_arguments(self):
        for line in INTERFACE.split("\n")[1:-1]:
            module, told = line.split(": ")
            place = importlib.import_module("unfoldnet." + module)
            for name, arguments in [part.rstrip(")").split("(") for part in told.split(", ")]:
                thing = place
                for word in name.split("."):
                    thing = getattr(thing, word)
                names = list(inspect.signature(thing).parameters) if name != "NetError" else []
                self.assertEqual([word for word in names if word != "self"], arguments.split(), name)

    def test_each_is_defined_in_its_module(self):
        for line in INTERFACE.split("\n")[1:-1]:
            module, told = line.split(": ")
            for name in [part.split("(")[0].split(".")[0] for part in told.split(", ")]:
                thing = getattr(importlib.import_module("unfoldnet." + module), name)
                self.assertEqual(thing.__module__, "unfoldnet." + module, name)


class KeptApart(unittest.TestCase):
    def nets(self):
        kin = net_of("ka kb; go: ka > kc; x: kc > ka; kj: kb > kb")
        return [(net_of(text), kin) for text in ("a b; go: a > c; on: b > d; x: c d > a b", FORK, ROUND)] + [
            (net, kin) for net in [ring_net(seed, 2, 2, 5) for seed in range(12)] if Grown(net).occurrences()]

    def test_what_is_handed_in_stays_and_the_same_is_told_again(self):
        for net, kin in self.nets():
            for ask, *handed in calls_of(net, kin):
                before = [shown(value) for value in handed]
                first = shown(ask(*handed))
                self.assertEqual([shown(value) for value in handed], before, ask)
                self.assertEqual(shown(ask(*handed)), first, ask)

    def test_told_lists_are_the_asker_s_own(self):
        for net, kin in self.nets():
            for ask, *handed in calls_of(net, kin):
                before = [shown(value) for value in handed]
                told = ask(*handed)
                first = shown(told)
                spoilt(told)
                self.assertEqual([shown(value) for value in handed], before, ask)
                self.assertEqual(shown(ask(*handed)), first, ask)

    def test_what_was_told_stays_when_what_was_handed_in_is_changed(self):
        for net, kin in self.nets():
            for ask, *handed in calls_of(net, kin):
                told = ask(*handed)
                first = shown(told)
                for value in handed:
                    spoilt(value)
                self.assertEqual(shown(told), first, ask)

    def test_all_asked_between(self):
        for net, kin in self.nets():
            calls = calls_of(net, kin)
            before = [shown(ask(*handed)) for ask, *handed in calls]
            after = [shown(ask(*handed)) for ask, *handed in reversed(calls)]
            self.assertEqual(after[::-1], before)


class ThePromise(unittest.TestCase):
    def nets(self):
        pairs = [(ring_net(seed, 2, 2, 3), net_of("ka kb; b: ka > kc; xc: kc > ka; kj: kb >")) for seed in range(12)]
        return ([net_of(text) for text in SOME_TEXTS] + [shaken(one, other) for one, other in pairs]
                + [ring_net(seed, 2 + seed % 2, 2, 6) for seed in range(20)])

    def leads(self, net, row):
        """The state to which a row that is told leads: each can be played."""
        states = counted_row(*parts_of(net), row)
        self.assertIsInstance(states, list, (parts_of(net), row))
        return states[-1]

    def test_troops_and_states(self):
        for net in self.nets():
            web, steps = Grown(net), counted_steps(net)
            stops, occurrences = web.stops(), web.occurrences()
            self.assertLess(len(occurrences) - len(stops), len(steps))
            reached = set()
            for troop in all_troops(web):
                state = counted_state(web, troop)
                for row in some_orders(web, troop, 3):
                    self.assertEqual(self.leads(net, row), state)
                if not set(stops) & set(troop):
                    reached.add(state)
                    self.assertEqual(sorted(occurrences[one][0] for one in going_on(web, troop)), sorted(steps[state]))
            self.assertEqual(reached, set(steps))
            self.assertEqual(all_states(web), sorted(steps))

    def test_what_is_told_is_played_and_what_is_not_is_nowhere(self):
        for net in self.nets():
            web, steps = Grown(net), counted_steps(net)
            reach = counted_reach(steps, net.start())
            for state in steps:
                self.assertEqual(self.leads(net, row_to(web, state)), state)
                self.assertEqual(len(row_to(web, state)), reach[state])
            seen = {move for moves in steps.values() for move in moves}
            self.assertEqual(set(never(web)), set(net.moves()) - seen)
            for move in net.moves():
                self.assertEqual(first_of(web, move) is None, move not in seen)
            for pair in combinations(net.moves(), 2):
                meet = [reach[state] for state in steps if set(pair) <= set(steps[state])]
                rows = [row for row in (beside(web, *pair), rivals(web, *pair)) if row is not None]
                self.assertEqual([len(row) for row in rows], [min(meet)] if meet else [])
            for pair in combinations(net.places(), 2):
                there = any(set(pair) <= set(state) for state in steps)
                self.assertEqual(holds(web, list(pair)) is not None, there)

    def test_pairs_of_occurrences_and_meeting_moves(self):
        for net in self.nets():
            web = Grown(net)
            occurrences = web.occurrences()
            numbers = range(len(occurrences)) if len(occurrences) < 30 else range(0)
            for one, other in combinations(numbers, 2):
                words = counted_words(web, one, other)
                self.assertEqual([relation(web, one, other)], words)
                moves = occurrences[one][0], occurrences[other][0]
                if words == ["beside"]:
                    # Two occurrences of one move are never side by side.
                    self.assertNotEqual(moves[0], moves[1])
                    self.assertIsNotNone(beside(web, *moves))

    def test_a_desk_tells_the_same(self):
        for net in self.nets():
            desk, web = Desk(), Grown(net)
            self.assertEqual(desk.say("net it " + net_text(net)), "ok")
            self.assertEqual(desk.say("text it"), net_text(net))
            for word, row in (("dead", dead_end(web)), ("lost", lost(web))):
                self.assertEqual(desk.say(word + " it"), "none" if row is None else " ".join(row) or "-")
            for move in net.moves():
                row = first_of(web, move)
                self.assertEqual(desk.say("first it " + move), "none" if row is None else " ".join(row))
                self.assertEqual(desk.say("round it " + move), "no" if round_of(web, move) is None else "yes")


if __name__ == "__main__":
    unittest.main()
