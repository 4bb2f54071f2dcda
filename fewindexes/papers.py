"""PAPERS that begin with a word."""

from fewindexes.errors import BadPaper


def paper_word(forms, paper):
    """The first word of a PAPER; forms are pairs of a word and of how many things it begins."""
    if type(paper) is not tuple or paper == ():
        raise BadPaper("form")
    word = paper[0]
    if type(word) is not str or (word, len(paper)) not in forms:
        raise BadPaper("form")
    return word
