"""TOLLS and REBATES of PAPERS on the best few; the other things that are passed are known to be right."""

from fewindexes.covers import heaviest_chain
from fewindexes.errors import BadPaper
from fewindexes.kinds import are_amounts, is_integer


def need_toll(thing):
    """Refuses what is no TOLL."""
    if not is_integer(thing) or thing < 0:
        raise BadPaper("toll")


def need_rebates(followers, worths, toll, thing):
    """Refuses what are no REBATES, or leave more than TOLL to things of these WORTHS that make a chain."""
    if not are_amounts(len(worths), thing):
        raise BadPaper("rebates")
    beyond = [max(0, worth - rebate) for worth, rebate in zip(worths, thing)]
    if heaviest_chain(followers, beyond) > toll:
        raise BadPaper("rows")
