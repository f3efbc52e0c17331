"""The desk: it keeps grown webs of nets by names, and answers rows of words."""

from unfoldnet.deadends import dead_end, never
from unfoldnet.errors import NoName, NoRow
from unfoldnet.firsts import first_of
from unfoldnet.grown import Grown
from unfoldnet.hands import shaken
from unfoldnet.names import is_name
from unfoldnet.nettexts import net_text, read_net
from unfoldnet.pairs import beside, rivals
from unfoldnet.rounds import lost, round_of
from unfoldnet.states import all_states, holds
from unfoldnet.weaves import row_levels

KEPT = "ok"
NO_MOVES = "-"
NO_ROW = "none"
BETWEEN_ROWS = "/"

# How many words a row has, by its first one; `net`, `holds` and `alike` may have more.
FEWEST_WORDS = {
    "net": 3, "shake": 4, "text": 2, "size": 2, "never": 2, "holds": 3, "dead": 2, "lost": 2, "first": 3, "beside": 4,
    "rivals": 4, "round": 3, "alike": 3,
}


def is_row(words):
    """Whether these words are a row that the desk answers, whatever its names, places and moves are."""
    first = words[0]
    if first not in FEWEST_WORDS or len(words) < FEWEST_WORDS[first]:
        return False
    if first == "net":
        # One word without signs would be a text without signs.
        return words[2:] != [""]
    if first == "alike":
        return words[2:].count(BETWEEN_ROWS) == 1
    return first == "holds" or len(words) == FEWEST_WORDS[first]


def words_of(row):
    """The words of a row that the desk answers."""
    if not isinstance(row, str):
        raise NoRow()
    words = row.split(" ")
    if not is_row(words):
        raise NoRow()
    return words


def must_be_name(word):
    """Refuses a word that is no name."""
    if not is_name(word):
        raise NoName()


def yes_or_no(truth):
    """The word for a truth."""
    return "yes" if truth else "no"


def moves_text(moves):
    """The text of a list of moves."""
    return " ".join(moves) if moves else NO_MOVES


def row_text(row):
    """The text of a row, or of None."""
    return NO_ROW if row is None else moves_text(row)


def size_text(grown):
    """How many states the net can come to, and how many occurrences are no stops, and are stops."""
    stops = len(grown.stops())
    return " ".join([str(size) for size in (len(all_states(grown)), len(grown.occurrences()) - stops, stops)])


def are_alike(net, words):
    """Whether two rows are alike that stand in a list of words with a sign between."""
    middle = words.index(BETWEEN_ROWS)
    # The first row is woven first, so that its refusal goes first.
    levels = row_levels(net, words[:middle])
    return levels == row_levels(net, words[middle + 1:])


def answer_of_net(grown, first):
    """The answer to a first word and the name of a net."""
    if first == "text":
        return net_text(grown.net())
    if first == "size":
        return size_text(grown)
    if first == "never":
        return moves_text(never(grown))
    if first == "dead":
        return row_text(dead_end(grown))
    return row_text(lost(grown))


def answer(grown, first, words):
    """The answer to a first word, the name of a net, and the words behind it."""
    if first == "holds":
        return yes_or_no(holds(grown, words) is not None)
    if first == "first":
        return row_text(first_of(grown, words[0]))
    if first == "beside":
        return row_text(beside(grown, words[0], words[1]))
    if first == "rivals":
        return row_text(rivals(grown, words[0], words[1]))
    if first == "round":
        return yes_or_no(round_of(grown, words[0]) is not None)
    if first == "alike":
        return yes_or_no(are_alike(grown.net(), words))
    return answer_of_net(grown, first)


class Desk:
    """A desk; what it is told is kept only when nothing of it was refused."""

    def __init__(self):
        self.grown_by_name = {}

    def say(self, row):
        """The answer to a row of words."""
        words = words_of(row)
        if words[0] == "net":
            return self.keep_text(words[1], " ".join(words[2:]))
        if words[0] == "shake":
            return self.keep_shaken(words[1], words[2], words[3])
        return answer(self.standing(words[1]), words[0], words[2:])

    def standing(self, name):
        """The grown web that stands by a name."""
        # All that stand are names: so what is no name is refused, too.
        if name not in self.grown_by_name:
            raise NoName()
        return self.grown_by_name[name]

    def keep_text(self, name, text):
        """Keeps the net of a text by a name."""
        must_be_name(name)
        self.grown_by_name[name] = Grown(read_net(text))
        return KEPT

    def keep_shaken(self, name, one, other):
        """Keeps the net of two nets that stand by a name."""
        must_be_name(name)
        net = shaken(self.standing(one).net(), self.standing(other).net())
        self.grown_by_name[name] = Grown(net)
        return KEPT
