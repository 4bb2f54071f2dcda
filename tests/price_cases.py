"""PRICES and WORTHS of many kinds, and the LEAST COST by trying all rows of INDEXES."""

from itertools import combinations
from random import Random

from cases import fit_by_fact, masks_by_all


def some_prices(columns, seed):
    """PRICES of many kinds: alike ones, 0 among them, all 1, 1,000."""
    source = Random(seed)
    found = [(1,) * columns, (0,) * columns, (1000,) * columns, (7,) * columns]
    for most in (1, 2, 5, 1000):
        found.append(tuple(source.randint(0, most) for _ in range(columns)))
    return found


def some_worths(many, seed):
    """WORTHS of many kinds: alike ones, 0 among them, 1,000."""
    source = Random(seed)
    found = [(1,) * many, (0,) * many, (1000,) * many]
    for most in (1, 2, 5, 1000):
        found.append(tuple(source.randint(0, most) for _ in range(many)))
    return found


def price(prices, columns):
    return sum(prices[column] for column in columns)


def cost(prices, indexes):
    return sum(price(prices, [step[0] for step in index]) for index in indexes)


def least_of_masks(masks, prices, many):
    """The least COST of INDEXES that together have so many bits; masks tell those of each INDEX."""
    kinds = {}
    for index, mask in masks.items():
        told = cost(prices, [index])
        kinds[mask] = min(told, kinds.get(mask, told))
    everyone = (1 << many) - 1
    costs = {0: 0}
    for mask in range(everyone):
        if mask in costs:
            for kind, more in kinds.items():
                told = costs[mask] + more
                costs[mask | kind] = min(told, costs.get(mask | kind, told))
    return costs[everyone]


def least_by_all(demand, prices, served):
    """Point 12, by trying all rows of INDEXES."""
    return least_of_masks(masks_by_all(demand, served), prices, len(demand[1]))


def rows_of(lookups):
    """All tuples of places of LOOKUPS that fit; one that is there twice fits itself."""
    rows = [()]
    fit = {(one, other) for one, other in combinations(range(len(lookups)), 2)
           if lookups[one] == lookups[other] or fit_by_fact(lookups[one], lookups[other])}
    for place in range(len(lookups)):
        rows += [(*row, place) for row in rows if all((at, place) in fit for at in row)]
    return rows
