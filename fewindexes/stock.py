"""INDEXES that are there: what they leave LOST, which are IDLE, and what has to come."""

from fewindexes.arguments import need_stock
from fewindexes.covering import all_apart
from fewindexes.covers import ahead_followers, chains_among, fewest_chains, lots_apart
from fewindexes.demands import need_demand
from fewindexes.errors import BadNumber, BadPaper
from fewindexes.indexes import need_index
from fewindexes.joining import joined_index
from fewindexes.kinds import are_indexes, is_number, is_numbers, is_tuple
from fewindexes.lookups import bare_numbers
from fewindexes.serving import is_served, serves
from fewindexes.steps import turned_steps


def lost_numbers(lookups, indexes):
    """The list of the numbers of the LOOKUPS that none of the INDEXES serves."""
    return [number for number, lookup in enumerate(lookups) if not is_served(indexes, lookup)]


def lost_among(demand, stock):
    """The list of the numbers of the LOST LOOKUPS; refuses what is no DEMAND, or no STOCK."""
    columns, lookups = need_demand(demand)
    return lost_numbers(lookups, need_stock(columns, stock))


def lost(demand, stock):
    """The ascending tuple of the numbers of the LOST LOOKUPS."""
    return tuple(lost_among(demand, stock))


def is_idle(demand, stock, number):
    """Whether without the INDEX with the number alone no more LOOKUPS are LOST."""
    gone = lost_among(demand, stock)
    if not is_number(len(stock), number):
        raise BadNumber(number)
    return lost_numbers(demand[1], stock[:number] + stock[number + 1:]) == gone


def is_in(columns, one, other):
    """Whether the INDEX one is the first STEPS of the INDEX other, as they are or all turned."""
    need_index(columns, one)
    need_index(columns, other)
    return other[:len(one)] in (one, turned_steps(one))


def trimmed(demand, index):
    """The first STEPS of the INDEX, as few as can be, at least one, that serve the same LOOKUPS."""
    columns, lookups = need_demand(demand)
    need_index(columns, index)
    served = [lookup for lookup in lookups if serves(index, lookup)]
    many = 1
    while not all([serves(index[:many], lookup) for lookup in served]):
        many += 1
    return index[:many]


def least_add(demand, stock):
    """The fewest INDEXES that come if all of the STOCK stay."""
    gone = lost_among(demand, stock)
    return len(fewest_chains([demand[1][number] for number in gone]))


def add_paper(demand, stock):
    """A PAPER on the fewest INDEXES that come."""
    gone = lost_among(demand, stock)
    lookups = [demand[1][number] for number in gone]
    indexes = [joined_index([lookups[place] for place in chain]) for chain in fewest_chains(lookups)]
    return (tuple(indexes), tuple([gone[place] for place in lots_apart(lookups)[0]]))


def check_add(demand, stock, paper):
    """The fewest INDEXES that come, by a PAPER that holds."""
    gone = lost_among(demand, stock)
    columns, lookups = demand
    if not is_tuple(2, paper):
        raise BadPaper("form")
    indexes, numbers = paper
    if not are_indexes(columns, indexes) or not all([is_served(indexes, lookups[number]) for number in gone]):
        raise BadPaper("add")
    if not is_numbers(len(lookups), numbers) or not all([number in gone for number in numbers]):
        raise BadPaper("numbers")
    if len(numbers) != len(indexes) or not all_apart(lookups, numbers):
        raise BadPaper("numbers")
    return len(numbers)


def all_keeps(many):
    """The list of all ascending tuples of numbers of so many INDEXES, longer ones first, those as long as ordered."""
    keeps = [()]
    for number in range(many):
        keeps = keeps + [(*keep, number) for keep in keeps]
    ranked = sorted([(-len(keep), keep) for keep in keeps])
    return [keep for _, keep in ranked]


def best_change(demand, stock):
    """A BEST CHANGE: as few INDEXES in all as can be, as many of them kept as can be, these the first such."""
    columns, lookups = need_demand(demand)
    need_stock(columns, stock)
    bare = bare_numbers(lookups)
    followers = ahead_followers(lookups, bare)
    many = len(chains_among(bare, followers))
    served = [[number for number in bare if serves(index, lookups[number])] for index in stock]
    # with none kept, the last of all, there are so many
    for keep in all_keeps(len(stock)):
        # what is WITHIN another one is left only where that one is, so that BARE ones of those left are BARE in all
        left = [number for number in bare if not any([number in served[place] for place in keep])]
        chains = chains_among(left, followers)
        if len(chains) + len(keep) == many:
            break
    return (keep, tuple([joined_index([lookups[number] for number in chain]) for chain in chains]))
