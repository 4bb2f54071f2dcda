"""LOOKUPS that are WITHIN other ones, and the PAPERS on it."""

from fewindexes.demands import need_lookup
from fewindexes.errors import BadPaper
from fewindexes.kinds import is_index
from fewindexes.lookups import lies_within
from fewindexes.papers import paper_word
from fewindexes.serving import serves, short_indexes

WITHIN_FORMS = (("within", 1), ("not", 2))


def is_within(columns, one, other):
    """Whether the LOOKUP one is WITHIN the LOOKUP other."""
    need_lookup(columns, one)
    need_lookup(columns, other)
    return lies_within(one, other)


def serves_just(index, other, one):
    """Whether the INDEX serves the LOOKUP other, and not the LOOKUP one."""
    return serves(index, other) and not serves(index, one)


def within_paper(columns, one, other):
    """A PAPER on whether the LOOKUP one is WITHIN the LOOKUP other."""
    need_lookup(columns, one)
    need_lookup(columns, other)
    # The short ones are enough: where a SET of one has fewer columns than EQUAL of
    # other, some column of EQUAL is not in it, and stands ahead of it in one of them;
    # any other fault shows in all of them, or by one of the WAYS of the first column.
    for index in short_indexes(other):
        if serves_just(index, other, one):
            return ("not", index)
    return ("within",)


def within_holds(columns, one, other, paper):
    """Whether a PAPER of a right form is as told."""
    if paper[0] == "within":
        return lies_within(one, other)
    return is_index(columns, paper[1]) and serves_just(paper[1], other, one)


def check_within(columns, one, other, paper):
    """The first word of a PAPER that holds."""
    need_lookup(columns, one)
    need_lookup(columns, other)
    word = paper_word(WITHIN_FORMS, paper)
    if not within_holds(columns, one, other, paper):
        raise BadPaper(word)
    return word
