"""INDEXES that serve LOOKUPS; all that is passed is known to be right."""

from fewindexes.steps import columns_of, turned_steps


def beginnings_in(index):
    """The tuple of the BEGINNINGS of an INDEX."""
    ahead = columns_of(index)
    return tuple([tuple(sorted(ahead[:many])) for many in range(len(index) + 1)])


def all_keep(index, lookup, way):
    """Whether all TABLES keep the LOOKUP by the INDEX this way, by the Fact.

    All SETS are BEGINNINGS exactly if the columns of EQUAL come first, in any
    turn, and those of SORT behind them, in theirs.
    """
    equal, sort = lookup
    many = len(equal)
    if tuple(sorted(columns_of(index[:many]))) != equal:
        return False
    wanted = sort if way == "forward" else turned_steps(sort)
    return index[many:many + len(sort)] == wanted


def way_in(index, lookup):
    """The first way that all TABLES keep the LOOKUP by the INDEX, or None."""
    for way in ("forward", "backward"):
        if all_keep(index, lookup, way):
            return way
    return None


def serves(index, lookup):
    """Whether the INDEX SERVES the LOOKUP."""
    return way_in(index, lookup) is not None


def is_served(indexes, lookup):
    """Whether one of the INDEXES SERVES the LOOKUP."""
    return any([serves(index, lookup) for index in indexes])


def short_indexes(lookup):
    """Some of the shortest INDEXES that serve a LOOKUP: each column of EQUAL is first in two, with either WAY."""
    equal, sort = lookup
    if equal == ():
        return [sort]
    found = []
    for first in equal:
        others = tuple([(column, "up") for column in equal if column != first])
        for way in ("up", "down"):
            found.append(((first, way), *others, *sort))
    return found
