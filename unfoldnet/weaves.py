"""Woven rows: the webs of just their occurrences, and their levels."""

from unfoldnet.cuts import spots_for
from unfoldnet.play import played
from unfoldnet.ranks import level_names
from unfoldnet.webs import Web


def woven(net, row):
    """The web of just the occurrences of a row, in its order."""
    web = Web(net)
    played(net, row)
    for number, move in enumerate(row):
        web.come(move, spots_for(web, list(range(number)), move))
    return web


def row_levels(net, row):
    """The levels of a row, each as the sorted list of its moves' names."""
    return level_names(woven(net, row), list(range(len(row))))
