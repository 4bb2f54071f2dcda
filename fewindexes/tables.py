"""TABLES, their LISTINGS, what they KEEP, and the PAPERS on whether an INDEX SERVES."""

from fewindexes.arguments import need_columns
from fewindexes.demands import need_lookup
from fewindexes.errors import BadPaper, BadTable, BadValues, BadWay
from fewindexes.indexes import need_index
from fewindexes.keeping import keeps, keeps_neither, unkept_table, values_at
from fewindexes.kinds import is_integers, is_table
from fewindexes.papers import paper_word
from fewindexes.serving import all_keep, way_in
from fewindexes.steps import ranked_rows

SERVE_FORMS = (("forward", 1), ("backward", 1), ("not", 2))


def need_table(columns, thing):
    """The thing itself, where it is a TABLE of so many columns."""
    need_columns(columns)
    if not is_table(columns, thing):
        raise BadTable(thing)
    return thing


def listing(columns, table, index):
    """The LISTING in which rows alike at the INDEX's columns stand as in the TABLE."""
    need_table(columns, table)
    need_index(columns, index)
    return ranked_rows(table, index)


def does_keep(columns, table, index, lookup, way):
    """Whether the TABLE KEEPS the LOOKUP by the INDEX, "forward" or "backward"."""
    need_table(columns, table)
    need_index(columns, index)
    need_lookup(columns, lookup)
    if type(way) is not str or way not in ("forward", "backward"):
        raise BadWay(way)
    return keeps(table, index, lookup, way)


def rows_for(columns, table, lookup, values):
    """The rows with these values at the columns of EQUAL, sorted by SORT, those alike by it as in the TABLE."""
    need_table(columns, table)
    equal, sort = need_lookup(columns, lookup)
    if not is_integers(len(equal), values):
        raise BadValues(values)
    return ranked_rows([row for row in table if values_at(row, equal) == values], sort)


def serve_paper(columns, index, lookup):
    """A PAPER on whether the INDEX SERVES the LOOKUP."""
    need_index(columns, index)
    need_lookup(columns, lookup)
    way = way_in(index, lookup)
    if way is None:
        return ("not", unkept_table(columns, index, lookup))
    return (way,)


def serve_holds(columns, index, lookup, paper):
    """Whether a PAPER of a right form is as told."""
    if paper[0] == "not":
        return is_table(columns, paper[1]) and keeps_neither(paper[1], index, lookup)
    return all_keep(index, lookup, paper[0])


def check_serve(columns, index, lookup, paper):
    """The first word of a PAPER that holds."""
    need_index(columns, index)
    need_lookup(columns, lookup)
    word = paper_word(SERVE_FORMS, paper)
    if not serve_holds(columns, index, lookup, paper):
        raise BadPaper(word)
    return word
