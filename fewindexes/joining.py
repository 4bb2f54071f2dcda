"""One INDEX for several LOOKUPS; all that is passed is known to be right."""

from fewindexes.lookups import do_two_fit, each_two, sets_in
from fewindexes.steps import turned_way


def do_all_fit(lookups):
    """Whether the LOOKUPS fit: each two of them do."""
    return each_two(lookups, do_two_fit)


def columns_in_turn(lookups):
    """The list of all columns of LOOKUPS that fit, in a turn in which each SET comes ahead of the others."""
    lots = sorted([(len(lot), lot) for lookup in lookups for lot in sets_in(lookup)])
    found = []
    for _, lot in lots:
        found.extend([column for column in lot if column not in found])
    return found


def next_way(lookups, ahead, column):
    """The WAY for a column behind the STEPS of an INDEX that are there.

    Where a LOOKUP sorts by this column and by the one that stands ahead, their
    WAYS are like or unlike as in it; else any WAY is right.
    """
    told = "up"
    for _, sort in lookups:
        ways = dict(sort)
        if column in ways:
            told = ways[column]
            if ahead != () and ahead[-1][0] in ways:
                before, way = ahead[-1]
                return told if ways[before] == way else turned_way(told)
    return told


def joined_index(lookups):
    """An INDEX with as few STEPS as can be that serves LOOKUPS that fit."""
    steps = ()
    for column in columns_in_turn(lookups):
        steps = (*steps, (column, next_way(lookups, steps, column)))
    return steps
