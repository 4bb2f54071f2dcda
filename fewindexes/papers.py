"""PAPERS that begin with a word."""

from fewindexes.errors import BadPaper


def paper_word(forms, paper):
    """The first word of a PAPER; forms are pairs of a word and of how many things it begins."""
    if type(paper) is not tuple or paper == () or type(paper[0]) is not str:
        raise BadPaper("form")
    if (paper[0], len(paper)) not in forms:
        raise BadPaper("form")
    return paper[0]
