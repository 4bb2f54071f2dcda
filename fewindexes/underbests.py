"""The BEST that few INDEXES serve of a DEMAND UNDER TELLS by WORTHS, the PROFIT at a TOLL, and the PAPERS on them."""

from fewindexes.arguments import need_few, need_worths
from fewindexes.demands import need_lookup
from fewindexes.errors import BadNumber, BadPaper
from fewindexes.flows import best_few
from fewindexes.fewunder import forms_of
from fewindexes.kinds import is_indexes, is_integer, is_tuple
from fewindexes.telling import told_form
from fewindexes.tells import need_tells
from fewindexes.tolling import need_rebates, need_toll
from fewindexes.underfitting import is_stretched, joined_under, under_chains, under_followers
from fewindexes.underserving import way_told


def is_stretch(columns, tells, one, other):
    """Whether the LOOKUP one is a STRETCH of the LOOKUP other UNDER TELLS."""
    need_tells(columns, tells)
    need_lookup(columns, one)
    need_lookup(columns, other)
    return is_stretched(told_form(tells, one), told_form(tells, other))


def lone_lookups(demand, tells):
    """The ascending tuple of the numbers of the LONE LOOKUPS."""
    return tuple(list(under_followers(forms_of(demand, tells))))


def lone_forms(demand, tells, worths):
    """The list of the forms of the LONE LOOKUPS; refuses what is no DEMAND, no TELLS, or no WORTHS UNDER these."""
    forms = forms_of(demand, tells)
    lone = [forms[number] for number in under_followers(forms)]
    need_worths(len(lone), worths)
    return lone


def need_profit_toll(thing):
    """Refuses what is no TOLL for PROFIT."""
    if not is_integer(thing) or not 0 <= thing <= 100000:
        raise BadNumber(thing)


def few_told(lone, worths, k):
    """What best_few tells of LONE LOOKUPS for K."""
    return best_few(worths, under_followers(lone), k, 0)


def profit_told(lone, worths, toll):
    """What best_few tells where each INDEX fewer than there are LONE LOOKUPS gains TOLL.

    So many are enough for what is worth more than TOLL, and those that are left
    make what best_few tells for TOLL this one.
    """
    return best_few(worths, under_followers(lone), len(lone), toll)


def chain_indexes(tells, lone, chains):
    """The tuple of the INDEXES that serve chains of places of LONE LOOKUPS."""
    return tuple([joined_under(tells, [lone[place] for place in chain]) for chain in chains])


def best_under(demand, tells, worths, k):
    """The greatest sum of the WORTHS of LONE LOOKUPS that at most K INDEXES serve UNDER TELLS."""
    lone = lone_forms(demand, tells, worths)
    need_few(12, k)
    return few_told(lone, worths, k)[0][-1]


def bests_under(demand, tells, worths):
    """The tuple of BEST UNDER TELLS for K from 1 to the least number of INDEXES that serve all."""
    lone = lone_forms(demand, tells, worths)
    return tuple(few_told(lone, worths, len(under_chains(lone)))[0])


def best_under_paper(demand, tells, worths, k):
    """A PAPER on BEST UNDER TELLS."""
    lone = lone_forms(demand, tells, worths)
    need_few(12, k)
    _, chains, toll, rebates = few_told(lone, worths, k)
    return (chain_indexes(tells, lone, chains), toll, tuple(rebates))


def served_worth(demand, tells, worths, indexes):
    """The sum of the WORTHS of the LONE LOOKUPS of which each is served UNDER TELLS by one of the INDEXES."""
    total = 0
    for number, worth in zip(lone_lookups(demand, tells), worths):
        if any([way_told(tells, index, demand[1][number]) is not None for index in indexes]):
            total = total + worth
    return total


def check_best_under(demand, tells, worths, k, paper):
    """BEST UNDER TELLS, by a PAPER that holds."""
    lone = lone_forms(demand, tells, worths)
    need_few(12, k)
    if not is_tuple(3, paper):
        raise BadPaper("form")
    indexes, toll, rebates = paper
    if not is_indexes(demand[0], indexes) or len(indexes) > k:
        raise BadPaper("indexes")
    need_toll(toll)
    need_rebates(under_followers(lone), worths, toll, rebates)
    best = served_worth(demand, tells, worths, indexes)
    if best != k * toll + sum(rebates):
        raise BadPaper("sum")
    return best


def profit(demand, tells, worths, toll):
    """The PROFIT at a TOLL."""
    lone = lone_forms(demand, tells, worths)
    need_profit_toll(toll)
    return sum(profit_told(lone, worths, toll)[3])


def profit_paper(demand, tells, worths, toll):
    """A PAPER on the PROFIT at a TOLL."""
    lone = lone_forms(demand, tells, worths)
    need_profit_toll(toll)
    _, chains, _, rebates = profit_told(lone, worths, toll)
    return (chain_indexes(tells, lone, chains), tuple(rebates))


def check_profit(demand, tells, worths, toll, paper):
    """The PROFIT at a TOLL, by a PAPER that holds."""
    lone = lone_forms(demand, tells, worths)
    need_profit_toll(toll)
    if not is_tuple(2, paper):
        raise BadPaper("form")
    indexes, rebates = paper
    if not is_indexes(demand[0], indexes):
        raise BadPaper("indexes")
    need_rebates(under_followers(lone), worths, toll, rebates)
    if served_worth(demand, tells, worths, indexes) != toll * len(indexes) + sum(rebates):
        raise BadPaper("sum")
    return sum(rebates)
