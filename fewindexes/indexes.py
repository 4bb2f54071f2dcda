"""INDEXES, and the LOOKUPS that they serve."""

from fewindexes.arguments import need_columns
from fewindexes.demands import need_demand, need_lookup
from fewindexes.errors import BadIndex
from fewindexes.kinds import is_index
from fewindexes.serving import beginnings_in, serves, way_in


def need_index(columns, thing):
    """The thing itself, where it is an INDEX of so many columns."""
    need_columns(columns)
    if not is_index(columns, thing):
        raise BadIndex(thing)
    return thing


def beginnings(columns, index):
    """The tuple of the BEGINNINGS of an INDEX, () first."""
    need_index(columns, index)
    return beginnings_in(index)


def way_of(columns, index, lookup):
    """The way that all TABLES keep the LOOKUP by the INDEX, "forward" ahead of "backward", or None."""
    need_index(columns, index)
    need_lookup(columns, lookup)
    return way_in(index, lookup)


def does_serve(columns, index, lookup):
    """Whether the INDEX SERVES the LOOKUP."""
    need_index(columns, index)
    need_lookup(columns, lookup)
    return serves(index, lookup)


def served_by(demand, index):
    """The ascending tuple of the numbers of the LOOKUPS that the INDEX serves."""
    columns, lookups = need_demand(demand)
    need_index(columns, index)
    return tuple([number for number, lookup in enumerate(lookups) if serves(index, lookup)])
