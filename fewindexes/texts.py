"""The texts of TERMS and of INDEXES, and what these say."""

from fewindexes.arguments import need_columns
from fewindexes.indexes import need_index
from fewindexes.reading import read_alone
from fewindexes.terms import need_term
from fewindexes.wordlines import index_in, index_words, term_in, term_words


def term_text(columns, term):
    """The text of a TERM."""
    need_term(columns, term)
    return " ".join(term_words(term))


def index_text(columns, index):
    """The text of an INDEX."""
    need_index(columns, index)
    return " ".join(index_words(index))


def read_term(columns, text):
    """The TERM that a text tells."""
    need_columns(columns)
    return need_term(columns, read_alone(text, term_in))


def read_index(columns, text):
    """The INDEX that a text tells."""
    need_columns(columns)
    return need_index(columns, read_alone(text, index_in))
