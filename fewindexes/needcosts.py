"""The LEAST COST of NEEDS by PRICES, and the PAPERS on it."""

from fewindexes.arguments import need_prices
from fewindexes.bounding import least_bound, shown_bound
from fewindexes.choosing import all_choices
from fewindexes.errors import BadPaper
from fewindexes.kinds import is_indexes, is_tuple
from fewindexes.needs import meet_all, need_few_choices, need_needs
from fewindexes.prices import all_cost, cost_told
from fewindexes.trees import begins, need_leaves


def need_priced_needs(columns, needs, prices):
    """Refuses what are no NEEDS, or no PRICES, or NEEDS with more than 300 CHOICES."""
    need_needs(columns, needs)
    need_prices(columns, prices)
    need_few_choices(columns, needs)


def each_once(chosen):
    """The list of the LOOKUPS that are chosen, each once, ascending."""
    return sorted(set(chosen))


def cheapest_choice(needs, prices):
    """The pair of the LEAST COST of NEEDS and of the LOOKUPS of a CHOICE that has it."""
    return min([(least_bound(each_once(chosen), prices)[0], chosen) for chosen in all_choices(needs)])


def least_needcost(columns, needs, prices):
    """The LEAST COST of NEEDS."""
    need_priced_needs(columns, needs, prices)
    return cheapest_choice(needs, prices)[0]


def dear_tree(needs, prices, cost, chosen):
    """The TREE behind the LOOKUPS that are chosen for the first NEEDS, the LEAST COST of all being told."""
    bound, outs, ins = least_bound(each_once(chosen), prices)
    if bound >= cost:
        return ("dear", outs, ins)
    trees = [dear_tree(needs, prices, cost, (*chosen, lookup)) for lookup in needs[len(chosen)]]
    return ("need", len(chosen), tuple(trees))


def needcost_paper(columns, needs, prices):
    """A PAPER on the LEAST COST of NEEDS."""
    need_priced_needs(columns, needs, prices)
    cost, chosen = cheapest_choice(needs, prices)
    return (cost_told(each_once(chosen), prices)[0], dear_tree(needs, prices, cost, ()))


def dear_holds(prices, cost, chosen, leaf):
    """Whether a thing shows that the LOOKUPS that are chosen, a dict by numbers of NEEDS, cost no less."""
    if not begins("dear", 3, leaf):
        return False
    bound = shown_bound(each_once(list(chosen.values())), prices, leaf[1], leaf[2])
    return bound is not None and bound >= cost


def dear_tree_holds(needs, prices, cost, tree):
    """Whether a thing is a TREE that shows that no CHOICE costs less."""
    leaves = need_leaves(needs, (), tree)
    return leaves is not None and all([dear_holds(prices, cost, chosen, leaf) for chosen, leaf in leaves])


def check_needcost(columns, needs, prices, paper):
    """The LEAST COST of NEEDS, by a PAPER that holds."""
    need_priced_needs(columns, needs, prices)
    if not is_tuple(2, paper):
        raise BadPaper("form")
    indexes, tree = paper
    if not is_indexes(columns, indexes) or not meet_all(needs, indexes):
        raise BadPaper("indexes")
    cost = all_cost(prices, indexes)
    if not dear_tree_holds(needs, prices, cost, tree):
        raise BadPaper("tree")
    return cost
