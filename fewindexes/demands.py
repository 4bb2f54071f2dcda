"""DEMANDS, and the LOOKUPS in them."""

from fewindexes.arguments import need_columns
from fewindexes.errors import BadDemand, BadLookup
from fewindexes.kinds import first_wrong, is_columns, is_lookup, is_tuple
from fewindexes.lookups import bare_numbers, sets_in


def need_demand(thing):
    """The thing itself, where it is a DEMAND."""
    if not is_tuple(2, thing):
        raise BadDemand("form")
    columns, lookups = thing
    if not is_columns(columns):
        raise BadDemand("columns")
    if type(lookups) is not tuple or not 1 <= len(lookups) <= 12:
        raise BadDemand("lookups")
    number = first_wrong(columns, lookups, is_lookup)
    if number is not None:
        raise BadDemand(number)
    return thing


def need_lookup(columns, thing):
    """The thing itself, where it is a LOOKUP of so many columns."""
    need_columns(columns)
    if not is_lookup(columns, thing):
        raise BadLookup(thing)
    return thing


def sets_of(columns, lookup):
    """The tuple of the SETS of a LOOKUP."""
    need_lookup(columns, lookup)
    return sets_in(lookup)


def bare_lookups(demand):
    """The ascending tuple of the numbers of the BARE LOOKUPS."""
    need_demand(demand)
    return tuple(bare_numbers(demand[1]))
