"""CHANGES of a STOCK by PRICES and UPKEEPS: the cheapest ones, LIMITS, and the PAPERS on the least COST."""

from fewindexes.arguments import need_prices, need_stock
from fewindexes.bounding import least_bound, shown_bound
from fewindexes.demands import need_demand
from fewindexes.errors import BadChange, BadNumber, BadPaper, BadUpkeeps, TooMany
from fewindexes.kinds import are_worths, is_indexes, is_number, is_numbers, is_tuple
from fewindexes.prices import all_cost, cost_told
from fewindexes.stock import all_keeps, lost_numbers
from fewindexes.trees import begins


def need_priced_stock(demand, prices, stock, upkeeps):
    """Refuses what is no DEMAND, no PRICES, no STOCK or no UPKEEPS."""
    columns, _ = need_demand(demand)
    need_prices(columns, prices)
    need_stock(columns, stock)
    if not are_worths(len(stock), upkeeps):
        raise BadUpkeeps(upkeeps)


def sum_of(upkeeps, keep):
    """The UPKEEPS of the INDEXES with some numbers, together."""
    return sum([upkeeps[number] for number in keep])


def at_numbers(things, numbers):
    """The list of the things with some numbers."""
    return [things[number] for number in numbers]


def is_change(demand, stock, thing):
    """Whether a thing is a CHANGE of a STOCK, with at most 12 INDEXES that come."""
    if not is_tuple(2, thing):
        return False
    columns, lookups = demand
    keep, add = thing
    if not is_numbers(len(stock), keep) or not is_indexes(columns, add):
        return False
    return lost_numbers(lookups, [*at_numbers(stock, keep), *add]) == []


def cost_of_change(prices, upkeeps, change):
    """The COST of a CHANGE."""
    keep, add = change
    return sum_of(upkeeps, keep) + all_cost(prices, add)


def change_cost(demand, prices, stock, upkeeps, change):
    """The COST of a CHANGE."""
    need_priced_stock(demand, prices, stock, upkeeps)
    if not is_change(demand, stock, change):
        raise BadChange(change)
    return cost_of_change(prices, upkeeps, change)


def left_lookups(lookups, stock, keep):
    """The list of the LOOKUPS that no INDEX of a STOCK with one of these numbers serves."""
    return at_numbers(lookups, lost_numbers(lookups, at_numbers(stock, keep)))


def keep_costs(demand, prices, stock, upkeeps):
    """A dict with the least COST of the CHANGES with each KEEP."""
    costs, bounds = {}, {}
    for keep in all_keeps(len(stock)):
        left = tuple(left_lookups(demand[1], stock, keep))
        if left not in bounds:
            bounds[left] = least_bound(left, prices)[0]
        costs[keep] = sum_of(upkeeps, keep) + bounds[left]
    return costs


def least_change_cost(demand, prices, stock, upkeeps):
    """The least COST of CHANGES."""
    need_priced_stock(demand, prices, stock, upkeeps)
    return min(list(keep_costs(demand, prices, stock, upkeeps).values()))


def cheapest_told(demand, prices, stock, upkeeps):
    """The pair of the least COST of CHANGES and of one that has it."""
    costs = keep_costs(demand, prices, stock, upkeeps)
    cost, keep = min([(cost, keep) for keep, cost in costs.items()])
    return cost, (keep, cost_told(left_lookups(demand[1], stock, keep), prices)[0])


def cheapest_change(demand, prices, stock, upkeeps):
    """A CHEAPEST CHANGE."""
    need_priced_stock(demand, prices, stock, upkeeps)
    return cheapest_told(demand, prices, stock, upkeeps)[1]


def limit_of(demand, prices, stock, upkeeps, number):
    """The LIMIT of the INDEX with the number."""
    need_priced_stock(demand, prices, stock, upkeeps)
    if not is_number(len(stock), number):
        raise BadNumber(number)
    costs = keep_costs(demand, prices, stock, upkeeps)
    without = [cost for keep, cost in costs.items() if number not in keep]
    return min(without) - min([cost - upkeeps[number] for keep, cost in costs.items() if number in keep])


def need_small_stock(stock):
    """Refuses a STOCK with more INDEXES than a PAPER is told of."""
    if len(stock) > 6:
        raise TooMany(6)


def lesser_lookups(lookups, stock, gone):
    """The list of the LOOKUPS that no INDEX of a STOCK serves but such as are gone."""
    return left_lookups(lookups, stock, [number for number in range(len(stock)) if number not in gone])


def stock_tree(lookups, prices, stock, upkeeps, cost, kept, gone):
    """The TREE behind the first INDEXES of a STOCK, each of which is kept or gone, the least COST being told."""
    bound, outs, ins = least_bound(lesser_lookups(lookups, stock, gone), prices)
    if sum_of(upkeeps, kept) + bound >= cost:
        return ("bound", outs, ins)
    number = len(kept) + len(gone)
    first = stock_tree(lookups, prices, stock, upkeeps, cost, (*kept, number), gone)
    return ("stock", number, first, stock_tree(lookups, prices, stock, upkeeps, cost, kept, (*gone, number)))


def change_paper(demand, prices, stock, upkeeps):
    """A PAPER on the least COST of CHANGES."""
    need_priced_stock(demand, prices, stock, upkeeps)
    need_small_stock(stock)
    cost, change = cheapest_told(demand, prices, stock, upkeeps)
    return (change, stock_tree(demand[1], prices, stock, upkeeps, cost, (), ()))


def stock_leaves(many, tree):
    """The list of what stands behind all "stock" TREES for so many INDEXES, None where one of these is none.

    Each leaf is a triple of the numbers that were told to be kept, of those
    that were told to be gone, and of the thing itself.
    """
    leaves, waiting = [], [((), (), tree)]
    while waiting:
        kept, gone, below = waiting.pop()
        if begins("stock", 4, below):
            _, number, first, other = below
            if not is_number(many, number) or number in kept or number in gone:
                return None
            waiting.append(((*kept, number), gone, first))
            waiting.append((kept, (*gone, number), other))
        else:
            leaves.append((kept, gone, below))
    return leaves


def bound_holds(lookups, prices, stock, upkeeps, cost, told):
    """Whether a leaf is a "bound" TREE that shows that no CHANGE that leads to it costs less."""
    kept, gone, leaf = told
    if not begins("bound", 3, leaf):
        return False
    bound = shown_bound(lesser_lookups(lookups, stock, gone), prices, leaf[1], leaf[2])
    return bound is not None and sum_of(upkeeps, kept) + bound >= cost


def check_change(demand, prices, stock, upkeeps, paper):
    """The least COST of CHANGES, by a PAPER that holds."""
    need_priced_stock(demand, prices, stock, upkeeps)
    need_small_stock(stock)
    if not is_tuple(2, paper):
        raise BadPaper("form")
    change, tree = paper
    if not is_change(demand, stock, change):
        raise BadPaper("change")
    cost = cost_of_change(prices, upkeeps, change)
    leaves = stock_leaves(len(stock), tree)
    if leaves is None or not all([bound_holds(demand[1], prices, stock, upkeeps, cost, leaf) for leaf in leaves]):
        raise BadPaper("tree")
    return cost
