"""The BEST that few INDEXES serve of a DEMAND by WORTHS, and the PAPERS on it."""

from fewindexes.arguments import need_few, need_worths
from fewindexes.covers import ahead_followers, fewest_chains
from fewindexes.demands import need_demand
from fewindexes.errors import BadPaper
from fewindexes.flows import best_few
from fewindexes.joining import joined_index
from fewindexes.kinds import is_indexes, is_tuple
from fewindexes.lookups import bare_numbers
from fewindexes.serving import is_served
from fewindexes.tolling import need_rebates, need_toll


def bare_of(demand, worths):
    """The list of the BARE LOOKUPS; refuses what is no DEMAND, or what are no WORTHS of it."""
    _, lookups = need_demand(demand)
    bare = [lookups[number] for number in bare_numbers(lookups)]
    need_worths(len(bare), worths)
    return bare


def all_followers(bare):
    """For each place among BARE LOOKUPS the list of the places of those that it is AHEAD of."""
    return ahead_followers(bare, list(range(len(bare))))


def best_told(bare, worths, k):
    """What best_few tells of BARE LOOKUPS."""
    return best_few(worths, all_followers(bare), k, 0)


def best_sum(demand, worths, k):
    """The greatest sum of the WORTHS of BARE LOOKUPS that at most K INDEXES serve."""
    bare = bare_of(demand, worths)
    need_few(12, k)
    return best_told(bare, worths, k)[0][-1]


def best_sums(demand, worths):
    """The tuple of BEST for K from 1 to FEWEST."""
    bare = bare_of(demand, worths)
    return tuple(best_told(bare, worths, len(fewest_chains(bare)))[0])


def best_paper(demand, worths, k):
    """A PAPER on BEST."""
    bare = bare_of(demand, worths)
    need_few(12, k)
    _, chains, toll, rebates = best_told(bare, worths, k)
    indexes = [joined_index([bare[place] for place in chain]) for chain in chains]
    return (tuple(indexes), toll, tuple(rebates))


def check_best(demand, worths, k, paper):
    """BEST, by a PAPER that holds."""
    bare = bare_of(demand, worths)
    need_few(12, k)
    if not is_tuple(3, paper):
        raise BadPaper("form")
    indexes, toll, rebates = paper
    if not is_indexes(demand[0], indexes) or len(indexes) > k:
        raise BadPaper("indexes")
    need_toll(toll)
    need_rebates(all_followers(bare), worths, toll, rebates)
    best = sum([worth for lookup, worth in zip(bare, worths) if is_served(indexes, lookup)])
    if best != k * toll + sum(rebates):
        raise BadPaper("sum")
    return best
