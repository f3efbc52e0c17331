"""The order of troops: by how many occurrences they have, by the moves of these, by their levels."""


def levels(web, troop):
    """The levels of a troop, as a list of rising lists of occurrences."""
    numbers = {}
    found = []
    # A cause came ahead of what it is a cause of; so in a rising list its level is known by then.
    for one in troop:
        givers = [web.spot_tuples[spot][1] for spot in web.occurrence_tuples[one][1]]
        number = max([numbers[giver] + 1 for giver in givers if giver is not None], default=0)
        numbers[one] = number
        if number == len(found):
            found.append([])
        found[number].append(one)
    return found


def level_names(web, troop):
    """The levels of a troop, each as the sorted list of its moves' names."""
    return [sorted([web.occurrence_tuples[one][0] for one in level]) for level in levels(web, troop)]


def rank(names_by_level):
    """What a troop with these levels of names goes by: the lesser troop has the lesser rank."""
    names = []
    for level in names_by_level:
        names = names + level
    return (len(names), sorted(names), [(len(level), level) for level in names_by_level])


def less(web, one, other):
    """Whether the first of two troops is less than the second."""
    return rank(level_names(web, one)) < rank(level_names(web, other))
