import unittest
from itertools import combinations, permutations, product

from helper import (BARE_NETS, FORK, MIDDLE, RICH_NETS, ROUND, TWO_WAYS_NETS, counted_alike, counted_grown,
                    counted_reach, counted_row, counted_steps, free_nets, last_state, net_of, parts_of, refusal_of,
                    ring_nets, rows_to_play)

from unfoldnet.desk import Desk
from unfoldnet.nettexts import net_text, read_net

# Two beads that meet: go and stay are rivals, go and on are side by side.
MEET = "start a b; go: a > c; meet: c d > a b; on: b > d; stay: a > a"
# One bead that turns, or ends for good; vain can never be.
TURN = "start x; back: y > x; end: y >; go: x > y; vain: x y > z"

# A row for each first word, told of two nets `one` and `two`, with its answer.
TOLD = [
    ("text one", MEET), ("text two", TURN),
    ("size one", "4 2 2"), ("size two", "3 2 1"),
    ("never one", "-"), ("never two", "vain"),
    ("holds one a", "yes"), ("holds one d c", "yes"), ("holds one a c", "no"), ("holds one d d d", "yes"),
    ("holds one a b c d", "no"), ("holds two z", "no"), ("holds two y", "yes"), ("holds two x y x", "no"),
    ("dead one", "none"), ("dead two", "go end"),
    ("lost one", "none"), ("lost two", "go end"),
    ("first one go", "go"), ("first one stay", "stay"), ("first two end", "go end"), ("first two vain", "none"),
    ("beside one go on", "-"), ("beside one on stay", "-"), ("beside one go stay", "none"),
    ("beside two go end", "none"),
    ("rivals one stay go", "-"), ("rivals one go on", "none"), ("rivals two back end", "go"),
    ("rivals two vain go", "none"), ("beside two vain back", "none"),
    ("beside one go go", "none"), ("rivals one go go", "none"), ("rivals two end end", "none"),
    ("rivals two vain vain", "none"), ("beside two vain vain", "none"),
    ("round one meet", "yes"), ("round one stay", "yes"), ("round two go", "yes"), ("round two end", "no"),
    ("round two vain", "no"),
    ("alike one go on / on go", "yes"), ("alike one stay go / go", "no"), ("alike one stay go on / on stay go", "yes"),
    ("alike one go on meet stay / on go meet stay", "yes"), ("alike one stay on / on stay stay", "no"),
    ("alike two /", "yes"), ("alike two go /", "no"), ("alike two / go", "no"), ("alike two go / go", "yes"),
]

WORDS = {"net": "net new start a", "shake": "shake new one two", "text": "text one", "size": "size one",
         "never": "never one", "holds": "holds one a", "dead": "dead one", "lost": "lost one", "first": "first one go",
         "beside": "beside one go on", "rivals": "rivals one go on", "round": "round one go",
         "alike": "alike one go / go"}


def desk_of(**texts):
    """A desk that was told these nets."""
    desk = Desk()
    for name, text in texts.items():
        assert desk.say(f"net {name} {text}") == "ok"
    return desk


def desk_of_two():
    return desk_of(one=MEET, two=TURN)


def told_of(desk, names):
    """What a desk tells of some names, and the refusals of what does not stand."""
    return [refusal_of(lambda: desk.say(f"{word} {name}")) or desk.say(f"{word} {name}")
            for name in names for word in ("text", "size", "never", "dead", "lost")]


class Case(unittest.TestCase):
    def refused(self, desk, words, kind, **values):
        """Holds the refusal of a row, and that it changes nothing."""
        names = ("one", "two", "new", "third", "a")
        before = told_of(desk, names)
        self.assertEqual(refusal_of(lambda: desk.say(words)), (kind, values), repr(words))
        self.assertEqual(told_of(desk, names), before, repr(words))


class Answers(Case):
    def test_by_hand(self):
        desk = desk_of_two()
        for turn in range(2):
            for row, answer in TOLD:
                told = desk.say(row)
                self.assertEqual((type(told), told), (str, answer), row)

    def test_rows_that_may_be_told_in_two_ways(self):
        desk = desk_of_two()
        self.assertIn(desk.say("first one meet"), ("go on meet", "on go meet"))
        self.assertEqual(desk.say("net one start a b; x: a > c; y: b > d; p: c d > e; q: d > f"), "ok")
        self.assertIn(desk.say("rivals one q p"), ("x y", "y x"))
        self.assertIn(desk.say("dead one"), ("x y p", "y x p", "x y q", "y x q", "y q x"))

    def test_ok(self):
        desk = Desk()
        self.assertEqual(desk.say("net one start"), "ok")
        self.assertEqual(desk.say("net two start a"), "ok")
        self.assertEqual(desk.say("shake new one two"), "ok")
        self.assertEqual([desk.say("text " + name) for name in ("one", "two", "new")], ["start", "start a", "start a"])

    def test_bare_nets(self):
        desk = desk_of(one="start", two="start b a")
        for name, size in (("one", "1 0 0"), ("two", "1 0 0")):
            self.assertEqual(desk.say("size " + name), size)
            self.assertEqual(desk.say("never " + name), "-")
            self.assertEqual(desk.say("dead " + name), "-")
            self.assertEqual(desk.say("lost " + name), "none")
            self.assertEqual(desk.say(f"alike {name} /"), "yes")
        self.assertEqual(desk.say("holds two b a b"), "yes")
        desk = desk_of(one="start; go: a > b; ab: b > a")
        self.assertEqual((desk.say("never one"), desk.say("first one go"), desk.say("round one ab")),
                         ("ab go", "none", "no"))
        self.assertEqual((desk.say("holds one a"), desk.say("dead one"), desk.say("text one")),
                         ("no", "-", "start; ab: b > a; go: a > b"))

    def test_the_text_is_told_in_its_order(self):
        desk = desk_of(one="start b a; out: c >; go: b a > c")
        self.assertEqual(desk.say("text one"), "start a b; go: a b > c; out: c >")

    def test_names_are_like_words_of_rows(self):
        # Nets, moves and places may have the names of first words, and of answers.
        desk = Desk()
        self.assertEqual(desk.say("net net start start; text: start > none; none: none > start"), "ok")
        self.assertEqual(desk.say("text net"), "start start; none: none > start; text: start > none")
        self.assertEqual(desk.say("net ok start ok; shake: ok > ok"), "ok")
        self.assertEqual(desk.say("shake text net ok"), "ok")
        self.assertEqual((desk.say("first text none"), desk.say("first text shake")), ("text none", "shake"))
        self.assertEqual(desk.say("alike text text shake / shake text"), "yes")
        self.assertEqual(desk.say("holds text none ok"), "yes")

    def test_long_names(self):
        desk = desk_of(abcdefgh="start longname; longmove: longname > a; b: a > longname")
        self.assertEqual(desk.say("first abcdefgh b"), "longmove b")


class AnswersAsCounted(Case):
    def nets(self):
        return ([net_of(text) for text in BARE_NETS + RICH_NETS + TWO_WAYS_NETS + (FORK, MIDDLE, ROUND)]
                + free_nets("ab", 2, 13) + free_nets("abc", 3, 9999) + ring_nets(25))

    def leads(self, net, told, fewest):
        """The state to which a row that is told as a text leads."""
        if fewest == 0:
            self.assertEqual(told, "-")
        self.assertNotIn(told, ("", "None", "[]"))
        row = None if told == "none" else [] if told == "-" else told.split(" ")
        return last_state(self, net, row, fewest)

    def test_sizes_and_never(self):
        for net in self.nets():
            desk = desk_of(one=net_text(net))
            steps = counted_steps(net)
            self.assertEqual(desk.say("text one"), net_text(net))
            web, partners = counted_grown(net)
            sizes = (len(steps), len(web.occurrences()) - len(partners), len(partners))
            self.assertEqual(desk.say("size one"), "%d %d %d" % sizes, parts_of(net))
            unseen = sorted(set(net.moves()) - {move for moves in steps.values() for move in moves})
            self.assertEqual(desk.say("never one"), " ".join(unseen) or "-")

    def test_holds(self):
        for net in self.nets():
            desk, states = desk_of(one=net_text(net)), counted_steps(net)
            for places in [some for size in (1, 2, 3) for some in combinations(net.places(), size)][:60]:
                expected = any(set(places) <= set(state) for state in states)
                for words in (places, places[::-1], places + places[:1]):
                    self.assertEqual(desk.say("holds one " + " ".join(words)), "yes" if expected else "no")

    def test_dead_and_lost(self):
        for net in self.nets():
            desk, steps = desk_of(one=net_text(net)), counted_steps(net)
            reach = counted_reach(steps, net.start())
            away = [state for state in steps if net.start() not in counted_reach(steps, state)]
            dead = [state for state in steps if not steps[state]]
            for word, states in (("dead one", dead), ("lost one", away)):
                state = self.leads(net, desk.say(word), min((reach[state] for state in states), default=None))
                self.assertTrue(state is None or state in states)

    def test_first_and_round(self):
        for net in self.nets():
            desk, steps = desk_of(one=net_text(net)), counted_steps(net)
            reach = counted_reach(steps, net.start())
            for move in net.moves():
                with_it = [state for state in steps if move in steps[state]]
                told = desk.say("first one " + move)
                self.leads(net, told, min((reach[state] + 1 for state in with_it), default=None))
                self.assertTrue(told == "none" or told.split(" ")[-1] == move)
                ringing = any(state in counted_reach(steps, steps[state][move]) for state in with_it)
                self.assertEqual(desk.say("round one " + move), "yes" if ringing else "no")

    def test_beside_and_rivals(self):
        for net in self.nets():
            desk, steps = desk_of(one=net_text(net)), counted_steps(net)
            reach = counted_reach(steps, net.start())
            for one, other in product(net.moves(), repeat=2):
                states = [state for state in steps if one in steps[state] and other in steps[state] and one != other]
                common = set(net.takes(one)) & set(net.takes(other))
                for word, fits in (("beside", not common), ("rivals", common)):
                    fewest = min((reach[state] for state in states if fits), default=None)
                    state = self.leads(net, desk.say(f"{word} one {one} {other}"), fewest)
                    self.assertTrue(state is None or state in states)

    def test_alike(self):
        found = {"yes": 0, "no": 0}
        for net in self.nets():
            desk = desk_of(one=net_text(net))
            rows = rows_to_play(net, 3)[:30]
            alike = {tuple(row): counted_alike(net, row) for row in rows}
            for row, other in product(rows, rows[::2]):
                told = desk.say(" ".join(["alike", "one"] + row + ["/"] + other))
                expected = "yes" if tuple(other) in alike[tuple(row)] else "no"
                self.assertEqual(told, expected, (parts_of(net), row, other))
                found[told] += row != other
        self.assertGreater(min(found.values()), 100)


class NoRowAtAll(Case):
    def test_what_is_no_text(self):
        desk = desk_of_two()
        for thing in (None, 0, 7, True, ["text", "one"], ("text", "one"), {"text": "one"}, b"text one", [],
                      ("text one",)):
            self.refused(desk, thing, "NoRow")

    def test_another_first_word(self):
        desk = desk_of_two()
        for row in ("", " ", "  ", "one", "texts one", "tex one", "Text one", "TEXT one", "say one", "needs one go",
                    "text\tone", "text\none", " text one", "one text", "text: one", "dead\n one", "/", "a / b",
                    "none", "ok", "net\u00a0new start", "te xt one"):
            self.refused(desk, row, "NoRow")

    def test_fewer_words(self):
        desk = desk_of_two()
        for row in WORDS.values():
            words = row.split(" ")
            # Behind `net new` and `holds one` one word is enough; `alike one /` has all that it must have.
            fewest = {"net": 3, "alike": 3}.get(words[0], len(words))
            for size in range(1, fewest):
                self.refused(desk, " ".join(words[:size]), "NoRow")

    def test_more_words(self):
        desk = desk_of_two()
        for first, row in WORDS.items():
            if first not in ("net", "holds", "alike"):
                for more in (" ", " go", "  ", " one", " two a", " /"):
                    self.refused(desk, row + more, "NoRow")

    def test_two_blanks_make_a_word_without_signs(self):
        desk = desk_of_two()
        for first, row in WORDS.items():
            if first not in ("net", "holds", "alike"):
                self.refused(desk, row.replace(" ", "  "), "NoRow")
                self.refused(desk, row.replace(" ", "  ", 1), "NoRow")
        # With as many words as told, the word without signs is no name, no move, no place.
        for row in ("text ", "size ", "never ", "dead ", "lost ", "holds  a", "first  go", "first  ", "beside  go on",
                    "rivals  go on", "round  go", "shake new  two", "shake new one ", "shake  one two", "shake   ",
                    "net  start", "net  start a; go: a > a", "alike  /", "alike  go / go"):
            self.refused(desk, row, "NoName")
        for row in ("first one ", "beside one  on", "beside one go ", "beside one  ", "rivals one  on",
                    "rivals one go ", "rivals one  ", "round one "):
            self.refused(desk, row, "NoMove", at=0)
        for row in ("holds one ", "holds one  a", "holds one a ", "holds one a  b", "holds one  "):
            self.refused(desk, row, "NoPlace")
        for row in (" text one", " net new start", "  dead one", " "):
            self.refused(desk, row, "NoRow")

    def test_a_net_without_a_sign_of_text(self):
        desk = desk_of_two()
        for row in ("net", "net ", "net  ", "net new", "net new ", "net one", "net one ", "net NEW",
                    "net NEW ", "net / "):
            self.refused(desk, row, "NoRow")

    def test_just_one_between_the_rows(self):
        desk = desk_of_two()
        for row in ("alike", "alike one", "alike one go", "alike one go on", "alike one go / on /", "alike one / /",
                    "alike one / / go", "alike one go / / go", "alike one //", "alike one go/go", "alike one go /on",
                    "alike one go// go", "alike one / go / ", "alike none go", "alike ONE go", "alike one \\",
                    "alike none / /", "alike one nowhere", "alike one fly / / fly", "alike ", "alike  ", "alike /"):
            self.refused(desk, row, "NoRow")


class NoNameThere(Case):
    def test_where_a_net_is_needed(self):
        desk = desk_of_two()
        for first, row in WORDS.items():
            if first not in ("net", "shake"):
                for name in ("new", "three", "on", "ones", "One", "ONE", "one1", "1", "", "a", "muchtoolong",
                             "one;", "/", "-", "start", "none", "one\n", "\u00e9"):
                    self.refused(desk, row.replace(" one", " " + name, 1), "NoName")

    def test_a_new_name(self):
        desk = desk_of_two()
        for name in ("New", "NEW", "new1", "1", "", "muchtoolong", "abcdefghi", "ne-w", "/", "new:", "start;",
                     "\u00e9", "new\n", "_"):
            self.refused(desk, f"net {name} {MEET}", "NoName")
            self.refused(desk, f"net {name} nothing", "NoName")
            self.refused(desk, f"net {name} start a b; go: a > b", "NoName")
            self.refused(desk, f"net {name} start a; go: > a", "NoName")
            self.refused(desk, f"net {name}  ", "NoName")
            self.refused(desk, f"shake {name} one two", "NoName")
            self.refused(desk, f"shake {name} one one", "NoName")

    def test_the_two_nets_of_shake(self):
        desk = desk_of_two()
        for row in ("shake new three two", "shake new one three", "shake new three four", "shake new new one",
                    "shake new one new", "shake one three two", "shake one two ONE", "shake new One two",
                    "shake new / two", "shake new a two", "shake new one x"):
            self.refused(desk, row, "NoName")

    def test_ahead_of_what_the_functions_refuse(self):
        desk = desk_of_two()
        for row in ("holds new fly", "holds NEW A", "first new fly", "beside new fly fly", "rivals NEW go go",
                    "round new fly", "alike new fly / fly", "alike NEW go go / go", "shake NEW one one"):
            self.refused(desk, row, "NoName")

    def test_an_empty_desk(self):
        desk = Desk()
        for first, row in WORDS.items():
            if first != "net":
                self.refused(desk, row, "NoName")

    def test_no_row_goes_ahead(self):
        desk = desk_of_two()
        for row in ("text NEW new", "text new new", "size", "first NEW", "first new", "beside new go",
                    "rivals NEW go on up", "round NEW", "alike NEW go", "holds NEW", "shake NEW one",
                    "shake NEW one two three", "net NEW", "dead NEW ", "lost  "):
            self.refused(desk, row, "NoRow")

    def test_a_refused_net_does_not_stand(self):
        desk = Desk()
        self.refused(desk, "net new nothing", "NoText")
        self.refused(desk, "net new start a b; go: a > b", "Crowded", row=["go"])
        self.refused(desk, "text new", "NoName")


class AsTheFunctions(Case):
    def test_no_text(self):
        desk = desk_of_two()
        for text in ("nothing", " ", "  ", " start a", "start a ", "start  a", "start a;", "start a; ",
                     "start a;go: a > b", "start a; go a > b", "start A", "start a; go: a b", "begin a",
                     "start a b; go: a  > b", "-", "/", "start a\n", "start a; go: a > b > c", "start a\tb"):
            for name in ("new", "one"):
                self.refused(desk, f"net {name} {text}", "NoText")

    def test_no_net(self):
        desk = desk_of_two()
        for text in ("start a a", "start a; go: > a", "start a; go: a > b; go: b > a", "start a; go: a a > b",
                     "start a b c d e f g h i j k l m", "start a; go: a b c d e >", "start a; go: a > b c d e f"):
            for name in ("new", "one"):
                self.refused(desk, f"net {name} {text}", "NoNet")

    def test_crowded(self):
        desk = desk_of_two()
        for name in ("new", "one"):
            self.refused(desk, f"net {name} start a b; go: a > b", "Crowded", row=["go"])
            self.refused(desk, f"net {name} start a c; go: a > b; on: b > c; b: a > a", "Crowded", row=["go", "on"])
            self.refused(desk, f"net {name} start a b; go: a > b; on: > c", "NoNet")

    def test_no_place(self):
        desk = desk_of_two()
        for row in ("holds one x", "holds one a x", "holds one x a", "holds two a", "holds one go", "holds one A",
                    "holds one one", "holds one a,b", "holds one /", "holds one a\n", "holds one -"):
            self.refused(desk, row, "NoPlace")

    def test_no_move(self):
        desk = desk_of_two()
        for row in ("first one fly", "first one a", "first one end", "first one GO", "first one -", "round one fly",
                    "round two stay", "round one a", "beside one fly go", "beside one go fly", "beside one fly fly",
                    "rivals one fly stay", "rivals one stay fly", "rivals one fly fly", "rivals one a a",
                    "rivals two on on", "beside two go on", "beside one go go\n"):
            self.refused(desk, row, "NoMove", at=0)

    def test_rows_that_are_not_to_be_played(self):
        desk = desk_of_two()
        for row, name, at in (("alike one fly /", "NoMove", 0), ("alike one / fly", "NoMove", 0),
                              ("alike one go fly / go", "NoMove", 1), ("alike one go / go on fly", "NoMove", 2),
                              ("alike one go go / fly", "Held", 1), ("alike one fly / meet", "NoMove", 0),
                              ("alike one meet / fly", "Held", 0), ("alike one on go on / go go", "Held", 2),
                              ("alike one go / go meet", "Held", 1), ("alike two vain / vain", "Held", 0),
                              ("alike two / go end back", "Held", 2), ("alike one  / go", "NoMove", 0),
                              ("alike one go  / go", "NoMove", 1), ("alike one go / ", "NoMove", 0),
                              ("alike one / ", "NoMove", 0), ("alike one  /", "NoMove", 0),
                              ("alike one go /  on", "NoMove", 0),
                              ("alike one go  on / go on", "NoMove", 1), ("alike one a / a", "NoMove", 0),
                              ("alike one back / back", "NoMove", 0)):
            self.refused(desk, row, name, at=at)

    def test_alike_as_played(self):
        desk, net = desk_of_two(), read_net(TURN)
        rows = [list(row) for size in range(4) for row in product(["go", "back", "end", "fly"], repeat=size)]
        for row, other in product(rows, rows[::9]):
            outcomes = [counted_row(*parts_of(net), some) for some in (row, other)]
            refused = [outcome for outcome in outcomes if isinstance(outcome, tuple)]
            words = " ".join(["alike", "two"] + row + ["/"] + other)
            refusal = refusal_of(lambda: desk.say(words))
            self.assertEqual(refusal, (refused[0][0], {"at": refused[0][1]}) if refused else None, words)

    def test_sixty_moves(self):
        desk = desk_of(one="start a b; x: a > a; y: b > b")
        x, y = ["x"] * 30, ["y"] * 30
        self.assertEqual(desk.say(" ".join(["alike one"] + x + y + ["/"] + y + x)), "yes")
        self.assertEqual(desk.say(" ".join(["alike one"] + x + y + ["/"] + y + x[1:] + ["y"])), "no")


class TakenAnew(Case):
    def test_net(self):
        desk = desk_of_two()
        self.assertEqual(desk.say("net one " + TURN), "ok")
        self.assertEqual(desk.say("text one"), TURN)
        self.assertEqual(desk.say("size one"), desk.say("size two"))
        self.assertEqual(desk.say("dead one"), "go end")
        self.refused(desk, "holds one a", "NoPlace")
        self.refused(desk, "first one meet", "NoMove", at=0)
        self.assertEqual(desk.say("text two"), TURN)
        self.assertEqual(desk.say("net one start"), "ok")
        self.assertEqual((desk.say("text one"), desk.say("size one")), ("start", "1 0 0"))

    def test_what_is_refused_leaves_the_elder_one(self):
        desk = desk_of_two()
        for row in ("net one nothing", "net one start a a", "net one start a b; go: a > b", "net one ",
                    "shake one two two", "shake one one one", "shake one three two"):
            with self.assertRaises(ValueError):
                desk.say(row)
            for told, answer in TOLD:
                self.assertEqual(desk.say(told), answer)

    def test_two_desks(self):
        one, other = desk_of(one=MEET), desk_of(one=TURN, two=MEET)
        self.assertEqual((one.say("text one"), other.say("text one")), (MEET, TURN))
        self.refused(one, "text two", "NoName")
        self.assertEqual(Desk().say("net one start q"), "ok")
        self.assertEqual((one.say("text one"), other.say("text one")), (MEET, TURN))

    def test_many_names(self):
        desk = Desk()
        names = ["n" + first + second for first, second in product("abcdef", repeat=2)]
        for number, name in enumerate(names):
            self.assertEqual(desk.say(f"net {name} start {name}; m: {name} > {'a' * (number % 8 + 1)}"), "ok")
        for number, name in enumerate(names):
            self.assertEqual(desk.say("text " + name), f"start {name}; m: {name} > {'a' * (number % 8 + 1)}")


class Shake(Case):
    BOTH = ("start a b x; back: y > x; end: y >; go: a x > c y; meet: c d > a b; on: b > d; stay: a > a; "
            "vain: x y > z")

    def test_by_a_new_name(self):
        desk = desk_of_two()
        self.assertEqual(desk.say("shake new one two"), "ok")
        self.assertEqual(desk.say("text new"), self.BOTH)
        self.assertEqual((desk.say("text one"), desk.say("text two")), (MEET, TURN))
        self.assertEqual((desk.say("beside new meet vain"), desk.say("rivals new go stay")), ("none", "-"))
        told = [desk.say(row) for row in ("round new back", "round new end", "never new")]
        self.assertEqual(told, ["yes", "no", "vain"])
        self.assertEqual(desk.say("alike new go on back meet / on go meet back"), "yes")
        self.assertEqual(desk.say("shake third two one"), "ok")
        self.assertEqual(desk.say("text third"), self.BOTH)

    def test_by_the_name_of_one_of_the_two(self):
        for name, other in (("one", "two"), ("two", "one")):
            for pair in ((name, other), (other, name)):
                desk = desk_of_two()
                kept = desk.say("text " + other)
                self.assertEqual(desk.say(" ".join(("shake", name) + pair)), "ok")
                self.assertEqual((desk.say("text " + name), desk.say("text " + other)), (self.BOTH, kept))
                self.refused(desk, " ".join(("shake", name) + pair), "NoNet")

    def test_by_a_third_name_that_stands(self):
        desk = desk_of(one=MEET, two=TURN, third="start q")
        self.assertEqual(desk.say("shake third one two"), "ok")
        self.assertEqual(desk.say("text third"), self.BOTH)

    def test_the_net_of_both_stays_when_one_is_taken_anew(self):
        desk = desk_of_two()
        desk.say("shake new one two")
        desk.say("net one start q")
        self.assertEqual(desk.say("text new"), self.BOTH)

    def test_no_net(self):
        desk = desk_of(one=MEET, two="start a", third="start p q r s t u v w x", a="start k l; meet: k l y > m")
        for row in ("shake new one two", "shake new one one", "shake one one one", "shake new one third",
                    "shake new third one", "shake new one a", "shake new a one", "shake two two two"):
            self.refused(desk, row, "NoNet")
        self.assertEqual(desk.say("shake new two third"), "ok")

    def test_a_net_without_places_with_itself(self):
        desk = desk_of(one="start", two=MEET)
        for row in ("shake one one one", "shake new one one", "shake new one two", "shake third two one"):
            self.assertEqual(desk.say(row), "ok")
        self.assertEqual([desk.say("text " + name) for name in ("one", "new", "third")], ["start", MEET, MEET])

    def test_sizes_as_counted(self):
        nets = [net_of("; ".join([start, f"go: {one} > {two}", f"{extra}: {two} > {one}"]))
                for start, one, two in (("a", "a", "b"), ("c d", "c", "e"), ("f", "g", "f")) for extra in ("on", "off")]
        for one, other in permutations(nets, 2):
            if not set(one.places()) & set(other.places()):
                desk = desk_of(one=net_text(one), two=net_text(other))
                self.assertEqual(desk.say("shake new one two"), "ok")
                both = read_net(desk.say("text new"))
                web, partners = counted_grown(both)
                sizes = (len(counted_steps(both)), len(web.occurrences()) - len(partners), len(partners))
                self.assertEqual(desk.say("size new"), "%d %d %d" % sizes)


if __name__ == "__main__":
    unittest.main()
