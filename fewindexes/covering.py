"""LOOKUPS that are APART, the fewest INDEXES for a DEMAND, and the PAPERS on it."""

from fewindexes.arguments import need_numbers
from fewindexes.covers import fewest_chains, lots_apart
from fewindexes.demands import need_demand
from fewindexes.errors import BadPaper
from fewindexes.joining import joined_index
from fewindexes.kinds import is_indexes, is_numbers, is_tuple
from fewindexes.lookups import do_two_fit, no_two
from fewindexes.serving import is_served


def all_apart(lookups, numbers):
    """Whether the LOOKUPS with these numbers are APART."""
    return no_two([lookups[number] for number in numbers], do_two_fit)


def are_apart(demand, numbers):
    """Whether the LOOKUPS with these numbers are APART."""
    need_demand(demand)
    need_numbers(demand, numbers)
    return all_apart(demand[1], numbers)


def fewest(demand):
    """The least number of INDEXES such that each LOOKUP is served by one of them."""
    need_demand(demand)
    return len(fewest_chains(demand[1]))


def fewest_paper(demand):
    """A PAPER on FEWEST."""
    _, lookups = need_demand(demand)
    indexes = [joined_index([lookups[number] for number in chain]) for chain in fewest_chains(lookups)]
    return (tuple(indexes), lots_apart(lookups)[0])


def serve_all(columns, thing, lookups):
    """Whether a thing is a tuple of at most 12 INDEXES such that each LOOKUP is served by one of them."""
    return is_indexes(columns, thing) and all([is_served(thing, lookup) for lookup in lookups])


def check_fewest(demand, paper):
    """FEWEST, by a PAPER that holds."""
    columns, lookups = need_demand(demand)
    if not is_tuple(2, paper):
        raise BadPaper("form")
    indexes, numbers = paper
    if not serve_all(columns, indexes, lookups):
        raise BadPaper("indexes")
    if not is_numbers(len(lookups), numbers) or numbers == () or not all_apart(lookups, numbers):
        raise BadPaper("apart")
    if len(indexes) != len(numbers):
        raise BadPaper("count")
    return len(numbers)
