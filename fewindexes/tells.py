"""TELLS, the TABLES that obey them, CLOSURES, CUTS and CLOSED SETS."""

from fewindexes.arguments import need_columns
from fewindexes.demands import need_lookup
from fewindexes.errors import BadLot, BadTells
from fewindexes.kinds import first_wrong, is_lot, is_tell
from fewindexes.tables import need_table
from fewindexes.telling import bits_of, closed_bits, columns_in, obeys, told_form


def need_tells(columns, thing):
    """The thing itself, where it is TELLS of so many columns."""
    need_columns(columns)
    if type(thing) is not tuple or len(thing) > 8:
        raise BadTells(None)
    number = first_wrong(columns, thing, is_tell)
    if number is not None:
        raise BadTells(number)
    return thing


def closure(columns, tells, lot):
    """The CLOSURE of a LOT."""
    need_tells(columns, tells)
    if not is_lot(columns, lot):
        raise BadLot(lot)
    return columns_in(closed_bits(tells, bits_of(lot)))


def does_obey(columns, tells, table):
    """Whether a TABLE obeys TELLS."""
    need_tells(columns, tells)
    need_table(columns, table)
    return obeys(tells, table)


def cut_steps(columns, tells, lookup):
    """The CUT of a LOOKUP."""
    need_tells(columns, tells)
    need_lookup(columns, lookup)
    return told_form(tells, lookup)[1]


def closed_sets(columns, tells, lookup):
    """The tuple of the CLOSED SETS of a LOOKUP."""
    need_tells(columns, tells)
    need_lookup(columns, lookup)
    return tuple([columns_in(bits) for bits in told_form(tells, lookup)[0]])
