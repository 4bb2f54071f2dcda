"""TERMS of queries, their PARTS, and the INDEXES that do these."""

from fewindexes.arguments import need_columns, need_told_indexes
from fewindexes.errors import BadTerm
from fewindexes.parting import part_lookups, way_done
from fewindexes.wording import bound_parts, has_columns, has_form, kids_in, parts_in


def need_term(columns, thing):
    """The thing itself, where it is a TERM of so many columns."""
    need_columns(columns)
    words = 0
    waiting = [((), thing)]
    while waiting:
        path, term = waiting.pop()
        if words == 20 or len(path) == 12:
            raise BadTerm(())
        words += 1
        if not has_form(term) or not has_columns(columns, term):
            raise BadTerm(path)
        kids = kids_in(term)
        # the last one waits longest: from left to right, each with its own behind it
        for at in range(len(kids), 0, -1):
            waiting.append(((*path, at), kids[at - 1]))
    if len(parts_in(thing)) > 8:
        raise BadTerm(())
    return thing


def parts_of(columns, term):
    """The tuple of the PARTS of a TERM."""
    need_term(columns, term)
    return parts_in(term)


def kids_of(columns, term):
    """The tuple of the TERMS that stand in a TERM itself, in turn."""
    need_term(columns, term)
    return kids_in(term)


def choices_of(columns, term):
    """The tuple with the LOOKUPS of each PART of a TERM that is not free, () for a hard one."""
    need_term(columns, term)
    return tuple([part_lookups(part) for part in bound_parts(term)])


def first_doer(indexes, part):
    """The number of the first one of INDEXES that does the PART, None if none does."""
    for number, index in enumerate(indexes):
        if way_done(index, part) is not None:
            return number
    return None


def doers(columns, term, indexes):
    """The tuple with, for each PART of a TERM, the number of the first of the INDEXES that does it, or None."""
    need_term(columns, term)
    need_told_indexes(columns, indexes)
    return tuple([first_doer(indexes, part) for part in parts_in(term)])
