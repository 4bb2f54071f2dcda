"""NEEDS with choices, the fewest INDEXES that meet them, and the PAPERS on it."""

from fewindexes.arguments import need_columns, need_told_indexes
from fewindexes.choosing import all_choices, all_fits, count_choices, lot_apart
from fewindexes.covers import fewest_chains
from fewindexes.errors import BadNeeds, BadPaper, TooMany
from fewindexes.joining import joined_index
from fewindexes.kinds import are_indexes, is_need, is_numbers, is_tuple
from fewindexes.lookups import do_two_fit, no_two
from fewindexes.serving import is_served
from fewindexes.trees import begins, need_leaves


def need_needs(columns, thing):
    """The thing itself, where it is NEEDS of so many columns."""
    need_columns(columns)
    if type(thing) is not tuple or not 1 <= len(thing) <= 6:
        raise BadNeeds(None)
    for number, need in enumerate(thing):
        if not is_need(columns, need):
            raise BadNeeds(number)
    return thing


def need_few_choices(columns, thing):
    """The thing itself, where it is NEEDS with at most 300 CHOICES."""
    need_needs(columns, thing)
    if count_choices(thing) > 300:
        raise TooMany(300)
    return thing


def meet_all(needs, indexes):
    """Whether INDEXES meet all NEEDS."""
    return all([any([is_served(indexes, lookup) for lookup in need]) for need in needs])


def do_meet(columns, needs, indexes):
    """Whether INDEXES, at most 12, meet all NEEDS."""
    need_needs(columns, needs)
    need_told_indexes(columns, indexes)
    return meet_all(needs, indexes)


def best_choice(needs, fits):
    """The LOOKUPS of a CHOICE for which the fewest INDEXES are enough."""
    sizes = [(len(lot_apart(chosen, fits)), chosen) for chosen in all_choices(needs)]
    return min(sizes)[1]


def least_for(columns, needs):
    """The least number of INDEXES that meet all NEEDS."""
    need_few_choices(columns, needs)
    fits = all_fits(needs)
    return len(lot_apart(best_choice(needs, fits), fits))


def most_tree(needs, fits, many, chosen):
    """The TREE behind the LOOKUPS that are chosen for the first NEEDS, so many of any CHOICE being apart."""
    numbers = lot_apart(chosen, fits)
    if len(numbers) >= many:
        return ("most", numbers[:many])
    trees = [most_tree(needs, fits, many, (*chosen, lookup)) for lookup in needs[len(chosen)]]
    return ("need", len(chosen), tuple(trees))


def needs_paper(columns, needs):
    """A PAPER on the least number."""
    need_few_choices(columns, needs)
    fits = all_fits(needs)
    chosen = best_choice(needs, fits)
    indexes = [joined_index([chosen[place] for place in chain]) for chain in fewest_chains(chosen)]
    return (tuple(indexes), most_tree(needs, fits, len(indexes), ()))


def most_holds(needs, many, chosen, numbers):
    """Whether numbers are just so many of NEEDS with LOOKUPS chosen, no two of which fit."""
    if not is_numbers(len(needs), numbers) or len(numbers) != many:
        return False
    if not all([number in chosen for number in numbers]):
        return False
    return no_two([chosen[number] for number in numbers], do_two_fit)


def tree_holds(needs, many, tree):
    """Whether a thing is a TREE."""
    leaves = need_leaves(needs, (), tree)
    if leaves is None:
        return False
    return all([begins("most", 2, leaf) and most_holds(needs, many, chosen, leaf[1]) for chosen, leaf in leaves])


def check_needs(columns, needs, paper):
    """The least number, by a PAPER that holds."""
    need_few_choices(columns, needs)
    if not is_tuple(2, paper):
        raise BadPaper("form")
    indexes, tree = paper
    if not are_indexes(columns, indexes) or not meet_all(needs, indexes):
        raise BadPaper("indexes")
    if not tree_holds(needs, len(indexes), tree):
        raise BadPaper("tree")
    return len(indexes)
