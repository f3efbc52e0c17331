"""A net's text: how it is written, and how it is read."""

from unfoldnet.errors import NoText
from unfoldnet.names import is_name
from unfoldnet.nets import Net

FIRST_WORD = "start"
GIVES_SIGN = ">"


def move_text(net, move):
    """The part of a text that tells a move."""
    return " ".join([move + ":"] + net.takes(move) + [GIVES_SIGN] + net.gives(move))


def net_text(net):
    """The text of a net."""
    parts = [" ".join([FIRST_WORD] + list(net.start()))]
    for move in net.moves():
        parts.append(move_text(net, move))
    return "; ".join(parts)


def checked_names(words):
    """The words, all of which must be names."""
    if not all([is_name(word) for word in words]):
        raise NoText()
    return words


def read_start(part):
    """The list of the places that the first part tells."""
    # Split at each single blank, so that a blank too many leaves a word without signs, which is no name.
    words = part.split(" ")
    if words[0] != FIRST_WORD:
        raise NoText()
    return checked_names(words[1:])


def read_move(part):
    """The tuple (name, takes, gives) that a later part tells."""
    words = part.split(" ")
    if not words[0].endswith(":") or GIVES_SIGN not in words:
        raise NoText()
    name = words[0][:-1]
    checked_names([name])
    middle = words.index(GIVES_SIGN)
    # A second sign stands among the places given, where it is no name.
    return (name, checked_names(words[1:middle]), checked_names(words[middle + 1:]))


def read_net(text):
    """The net of a text."""
    if not isinstance(text, str):
        raise NoText()
    parts = text.split("; ")
    start = read_start(parts[0])
    # All parts are read ahead of the making, so that NoText goes ahead of NoNet.
    moves = [read_move(part) for part in parts[1:]]
    return Net(moves, start)
