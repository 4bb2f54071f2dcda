"""INDEXES that SERVE LOOKUPS UNDER TELLS, LOOKUPS that fit so, and the PAPERS on it."""

from fewindexes.arguments import need_numbers
from fewindexes.demands import need_demand, need_lookup
from fewindexes.errors import BadPaper
from fewindexes.indexes import need_index
from fewindexes.kinds import is_table
from fewindexes.lookups import each_two
from fewindexes.papers import paper_word
from fewindexes.tables import SERVE_FORMS
from fewindexes.tells import need_tells
from fewindexes.telling import told_form
from fewindexes.underfitting import do_forms_fit, joined_under
from fewindexes.underserving import all_keep_under, parts_under, unkept_under, way_told


def way_under(columns, tells, index, lookup):
    """The way that all TABLES that obey keep the LOOKUP, "forward" ahead of "backward", or None."""
    need_tells(columns, tells)
    need_index(columns, index)
    need_lookup(columns, lookup)
    return way_told(tells, index, lookup)


def under_paper(columns, tells, index, lookup):
    """A PAPER on whether the INDEX SERVES the LOOKUP UNDER TELLS."""
    way = way_under(columns, tells, index, lookup)
    if way is None:
        return ("not", unkept_under(columns, tells, index, lookup))
    return (way,)


def under_holds(columns, tells, index, lookup, paper):
    """Whether a PAPER of a right form is as told."""
    if paper[0] == "not":
        return is_table(columns, paper[1]) and parts_under(tells, paper[1], index, lookup)
    return all_keep_under(tells, index, lookup, paper[0])


def check_under(columns, tells, index, lookup, paper):
    """The first word of a PAPER that holds."""
    need_tells(columns, tells)
    need_index(columns, index)
    need_lookup(columns, lookup)
    word = paper_word(SERVE_FORMS, paper)
    if not under_holds(columns, tells, index, lookup, paper):
        raise BadPaper(word)
    return word


def forms_at(demand, tells, numbers):
    """The list of the forms of the LOOKUPS with these numbers; refuses what is not as it ought to be."""
    columns, lookups = need_demand(demand)
    need_tells(columns, tells)
    need_numbers(demand, numbers)
    return [told_form(tells, lookups[number]) for number in numbers]


def do_fit_under(demand, tells, numbers):
    """Whether the LOOKUPS with these numbers fit under TELLS."""
    return each_two(forms_at(demand, tells, numbers), do_forms_fit)


def index_under(demand, tells, numbers):
    """An INDEX that serves the LOOKUPS with these numbers UNDER TELLS, or None."""
    forms = forms_at(demand, tells, numbers)
    return joined_under(tells, forms) if each_two(forms, do_forms_fit) else None
