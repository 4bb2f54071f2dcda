"""Greatest lots of LOOKUPS that are APART, and what one LOOKUP fewer or more does to FEWEST."""

from fewindexes.covers import lots_apart
from fewindexes.demands import need_demand, need_lookup
from fewindexes.lookups import do_two_fit


def greatest_lots(demand):
    """The ascending tuple of all greatest lots."""
    need_demand(demand)
    return tuple(lots_apart(demand[1]))


def critical(demand):
    """The ascending tuple of the numbers of the CRITICAL LOOKUPS: those in each greatest lot."""
    need_demand(demand)
    first, *others = lots_apart(demand[1])
    return tuple([number for number in first if all([number in lot for lot in others])])


def needs_more(demand, lookup):
    """Whether FEWEST is one more with the LOOKUP besides."""
    columns, lookups = need_demand(demand)
    need_lookup(columns, lookup)
    # FEWEST is one more exactly if the LOOKUP is apart from all of some greatest lot
    for lot in lots_apart(lookups):
        if not any([do_two_fit(lookup, lookups[number]) for number in lot]):
            return True
    return False
