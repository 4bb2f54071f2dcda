"""INDEXES that serve LOOKUPS UNDER TELLS; all that is passed is known to be right."""

from fewindexes.keeping import keeps_neither
from fewindexes.steps import columns_of, turned_steps
from fewindexes.telling import bits_of, closed_bits, cut_of, obeys, told_form


def beginning_closures(tells, index):
    """The list of the CLOSURES of the BEGINNINGS of an INDEX, each as bits."""
    ahead = columns_of(index)
    return [closed_bits(tells, bits_of(ahead[:many])) for many in range(len(index) + 1)]


def cut_behind(tells, index, bits):
    """The CUT of the STEPS of an INDEX behind a BEGINNING with this CLOSURE, or None where none has it."""
    for many, closed in enumerate(beginning_closures(tells, index)):
        if closed == bits:
            return cut_of(tells, bits, index[many:])[0]
    return None


def all_keep_under(tells, index, lookup, way):
    """Whether all TABLES that obey keep the LOOKUP by the INDEX this way, by the Fact."""
    closed, cut = told_form(tells, lookup)
    behind = cut_behind(tells, index, closed[0])
    if behind is None:
        return False
    return behind[:len(cut)] == (cut if way == "forward" else turned_steps(cut))


def way_told(tells, index, lookup):
    """The first way that all TABLES that obey keep the LOOKUP by the INDEX, or None."""
    for way in ("forward", "backward"):
        if all_keep_under(tells, index, lookup, way):
            return way
    return None


def parting_sets(tells, index, lookup):
    """What makes three rows of a TABLE that obeys, and keeps the LOOKUP neither way, where the INDEX does not serve.

    A triple: the LOT at which the second row is as the others, the greater one
    at which the third is as the first, both being their own CLOSURES, and a
    column at which the second and the third change places, or None.
    """
    closed, cut = told_form(tells, lookup)
    behind = cut_behind(tells, index, closed[0])
    if behind is None:
        # The last BEGINNING told by EQUAL leaves the second row among the others,
        # which are alike at EQUAL; the next column, if any, puts it between them.
        told = [bits for bits in beginning_closures(tells, index) if bits & closed[0] == bits]
        return told[-1], closed[0], None
    for place, step in enumerate(cut):
        if place == len(behind) or behind[place][0] != step[0]:
            return closed[place], closed[place], step[0]
    # All columns are right, so some STEP is as the first one is, and another one is not.
    likes = [behind[place] == step for place, step in enumerate(cut)]
    return closed[0], closed[likes.index(not likes[0])], None


def unkept_under(columns, tells, index, lookup):
    """A TABLE of three rows that obeys, and keeps the LOOKUP neither way, by an INDEX that does not serve it so."""
    less, more, column = parting_sets(tells, index, lookup)
    second = [0 if less & (1 << place) else 1 for place in range(columns)]
    third = [0 if more & (1 << place) else 2 for place in range(columns)]
    if column is not None:
        second[column], third[column] = 2, 1
    return tuple(sorted([tuple([0 for _ in range(columns)]), tuple(second), tuple(third)]))


def parts_under(tells, table, index, lookup):
    """Whether a TABLE obeys, and keeps the LOOKUP by the INDEX neither way."""
    return obeys(tells, table) and keeps_neither(table, index, lookup)
