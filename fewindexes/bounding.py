"""What LOOKUPS cost at least, and what shows it; the LOOKUPS and PRICES are known to be right."""

from fewindexes.covers import ahead_followers
from fewindexes.kinds import are_amounts
from fewindexes.prices import bare_prices, pairs_hold
from fewindexes.pricing import cheapest_chains


def least_bound(lookups, prices):
    """A triple: the LEAST COST of LOOKUPS, 0 of none, and the OUTS and INS that show it."""
    told = bare_prices(lookups, prices)
    _, outs, ins = cheapest_chains(told, ahead_followers(lookups, list(told)))
    outs, ins = tuple(list(outs.values())), tuple(list(ins.values()))
    return sum(list(told.values())) - sum(outs) - sum(ins), outs, ins


def shown_bound(lookups, prices, outs, ins):
    """What OUTS and INS show that LOOKUPS cost at least, None where they are none for these."""
    told = bare_prices(lookups, prices)
    if not are_amounts(len(told), outs) or not are_amounts(len(told), ins):
        return None
    if not pairs_hold(lookups, told, outs, ins):
        return None
    return sum(list(told.values())) - sum(outs) - sum(ins)
