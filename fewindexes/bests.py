"""The BEST that few INDEXES serve of a DEMAND by WORTHS, and the PAPERS on it."""

from fewindexes.arguments import need_few, need_worths
from fewindexes.covers import ahead_followers, fewest_chains, heaviest_chain
from fewindexes.demands import need_demand
from fewindexes.errors import BadPaper
from fewindexes.flows import best_few
from fewindexes.joining import joined_index
from fewindexes.kinds import are_amounts, is_indexes, is_integer, is_tuple
from fewindexes.lookups import bare_numbers
from fewindexes.serving import is_served


def bare_of(demand, worths):
    """The list of the BARE LOOKUPS; refuses what is no DEMAND, or what are no WORTHS of it."""
    _, lookups = need_demand(demand)
    bare = [lookups[number] for number in bare_numbers(lookups)]
    need_worths(len(bare), worths)
    return bare


def best_told(bare, worths, k):
    """What best_few tells of BARE LOOKUPS."""
    return best_few(worths, ahead_followers(bare, list(range(len(bare)))), k)


def best_sum(demand, worths, k):
    """The greatest sum of the WORTHS of BARE LOOKUPS that at most K INDEXES serve."""
    bare = bare_of(demand, worths)
    need_few(k)
    return best_told(bare, worths, k)[0][-1]


def best_sums(demand, worths):
    """The tuple of BEST for K from 1 to FEWEST."""
    bare = bare_of(demand, worths)
    return tuple(best_told(bare, worths, len(fewest_chains(bare)))[0])


def best_paper(demand, worths, k):
    """A PAPER on BEST."""
    bare = bare_of(demand, worths)
    need_few(k)
    _, chains, toll, rebates = best_told(bare, worths, k)
    indexes = [joined_index([bare[place] for place in chain]) for chain in chains]
    return (tuple(indexes), toll, tuple(rebates))


def rows_hold(bare, worths, toll, rebates):
    """Whether of any BARE LOOKUPS that fit what the WORTHS are more than the REBATES is at most TOLL."""
    beyond = [max(0, worth - rebate) for worth, rebate in zip(worths, rebates)]
    return heaviest_chain(ahead_followers(bare, list(range(len(bare)))), beyond) <= toll


def check_best(demand, worths, k, paper):
    """BEST, by a PAPER that holds."""
    bare = bare_of(demand, worths)
    need_few(k)
    if not is_tuple(3, paper):
        raise BadPaper("form")
    indexes, toll, rebates = paper
    if not is_indexes(demand[0], indexes) or len(indexes) > k:
        raise BadPaper("indexes")
    if not is_integer(toll) or toll < 0:
        raise BadPaper("toll")
    if not are_amounts(len(bare), rebates):
        raise BadPaper("rebates")
    if not rows_hold(bare, worths, toll, rebates):
        raise BadPaper("rows")
    best = sum([worth for lookup, worth in zip(bare, worths) if is_served(indexes, lookup)])
    if best != k * toll + sum(rebates):
        raise BadPaper("sum")
    return best
