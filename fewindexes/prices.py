"""The COST of INDEXES, the LEAST COST of a DEMAND, and the PAPERS on it."""

from fewindexes.arguments import need_columns, need_indexes, need_prices
from fewindexes.covering import serve_all
from fewindexes.covers import ahead_followers
from fewindexes.demands import need_demand
from fewindexes.errors import BadPaper
from fewindexes.joining import joined_index
from fewindexes.kinds import are_amounts, is_tuple
from fewindexes.lookups import bare_numbers, sets_in
from fewindexes.pricing import cheapest_chains, price_of
from fewindexes.steps import columns_of


def all_cost(prices, indexes):
    """The COST of INDEXES."""
    return sum([price_of(prices, columns_of(index)) for index in indexes])


def cost_of(columns, prices, indexes):
    """The COST of INDEXES."""
    need_columns(columns)
    need_prices(columns, prices)
    need_indexes(columns, indexes)
    return all_cost(prices, indexes)


def bare_prices(lookups, prices):
    """A dict with the PRICES of the last SET, together, for the number of each BARE LOOKUP, in their order."""
    return {number: price_of(prices, sets_in(lookups[number])[-1]) for number in bare_numbers(lookups)}


def cost_told(lookups, prices):
    """A PAPER on the LEAST COST of LOOKUPS; its INDEXES are as few as can be."""
    told = bare_prices(lookups, prices)
    chains, outs, ins = cheapest_chains(told, ahead_followers(lookups, list(told)))
    indexes = [joined_index([lookups[number] for number in chain]) for chain in chains]
    return (tuple(indexes), tuple(list(outs.values())), tuple(list(ins.values())))


def least_cost(demand, prices):
    """The LEAST COST."""
    columns, lookups = need_demand(demand)
    need_prices(columns, prices)
    return all_cost(prices, cost_told(lookups, prices)[0])


def cost_paper(demand, prices):
    """A PAPER on the LEAST COST; its INDEXES are as few as FEWEST tells."""
    columns, lookups = need_demand(demand)
    need_prices(columns, prices)
    return cost_told(lookups, prices)


def pairs_hold(lookups, told, outs, ins):
    """Whether OUT and IN are enough for any two BARE LOOKUPS; told is as of bare_prices."""
    followers = ahead_followers(lookups, list(told))
    enters = {number: ins[place] for place, number in enumerate(told)}
    for place, (number, price) in enumerate(told.items()):
        if any([outs[place] + enters[other] < price for other in followers[number]]):
            return False
    return True


def check_cost(demand, prices, paper):
    """The LEAST COST, by a PAPER that holds."""
    columns, lookups = need_demand(demand)
    need_prices(columns, prices)
    if not is_tuple(3, paper):
        raise BadPaper("form")
    indexes, outs, ins = paper
    if not serve_all(columns, indexes, lookups):
        raise BadPaper("indexes")
    told = bare_prices(lookups, prices)
    if not are_amounts(len(told), outs):
        raise BadPaper("outs")
    if not are_amounts(len(told), ins):
        raise BadPaper("ins")
    if not pairs_hold(lookups, told, outs, ins):
        raise BadPaper("pairs")
    cost = all_cost(prices, indexes)
    if cost + sum(outs) + sum(ins) != sum(list(told.values())):
        raise BadPaper("sum")
    return cost
