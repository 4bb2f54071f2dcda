"""PARTS of queries: the LOOKUPS for them, the INDEXES that do them, and the TABLES that show which do not."""

from fewindexes.arguments import need_columns
from fewindexes.errors import BadPart
from fewindexes.indexes import need_index
from fewindexes.kinds import is_part
from fewindexes.parting import FREE, part_lookups, parting_table, shows_done, way_done
from fewindexes.tables import need_table


def need_part(columns, thing):
    """The thing itself, where it is a PART of so many columns."""
    need_columns(columns)
    if not is_part(columns, thing):
        raise BadPart(thing)
    return thing


def lookups_for(columns, part):
    """The ascending tuple of the LOOKUPS of a PART."""
    need_part(columns, part)
    return part_lookups(part)


def is_hard(columns, part):
    """Whether a PART is hard: neither free, nor with any LOOKUP."""
    need_part(columns, part)
    return part != FREE and part_lookups(part) == ()


def does_do(columns, index, part):
    """The way that the INDEX does the PART, "forward" ahead of "backward", or None."""
    need_index(columns, index)
    need_part(columns, part)
    return way_done(index, part)


def is_done(columns, table, index, part):
    """Whether what does a PART holds of this TABLE alone, forward of all its LISTINGS or backward of all."""
    need_table(columns, table)
    need_index(columns, index)
    need_part(columns, part)
    return shows_done(table, index, part)


def undone_table(columns, index, part):
    """A TABLE of which it does not hold, None if the INDEX does the PART."""
    need_index(columns, index)
    need_part(columns, part)
    return parting_table(columns, index, part)
