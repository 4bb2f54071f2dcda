"""SHEETS: a TERM and SAYINGS on its PARTS, and which of these are so."""

from fewindexes.errors import BadText
from fewindexes.kinds import is_index
from fewindexes.parting import FREE, way_done
from fewindexes.parts import is_hard
from fewindexes.reading import integer_in, lines_in, read_whole
from fewindexes.terms import need_term
from fewindexes.wording import parts_in
from fewindexes.wordlines import index_in, term_in


def is_saying_word(word):
    """Whether a word can begin a SAYING."""
    return word in ("parts", "hard", "free", "does", "alike")


def saying_in(line):
    """The SAYING that stands in a Line: its word, its first integer, and what stands behind this, or None."""
    word = line.next_word(is_saying_word)
    number = line.next_integer()
    if word == "does":
        return (word, number, index_in(line))
    if word == "alike":
        return (word, number, line.next_integer())
    return (word, number, None)


def is_so(columns, parts, saying):
    """Whether a SAYING is so of the PARTS of a TERM."""
    word, number, other = saying
    if word == "parts":
        return number == len(parts)
    if number >= len(parts):
        return False
    part = parts[number]
    if word == "free":
        return part == FREE
    if word == "hard":
        return is_hard(columns, part)
    if word == "does":
        return is_index(columns, other) and way_done(other, part) is not None
    return other < len(parts) and parts[other] == part


def judged(text):
    """Of a SHEET the tuple with True or False for each SAYING, whether it is so."""
    lines = lines_in(text)
    columns = read_whole(lines[0], integer_in)
    if len(lines) == 1:
        raise BadText(1, 0)
    term = read_whole(lines[1], term_in)
    sayings = [read_whole(line, saying_in) for line in lines[2:]]
    need_term(columns, term)
    parts = parts_in(term)
    return tuple([is_so(columns, parts, saying) for saying in sayings])
