"""The BEST of NEEDS that few INDEXES meet by WORTHS, and the PAPERS on it.

For a NEED that is left out None is picked in the place of a LOOKUP.
"""

from fewindexes.arguments import need_few, need_worths
from fewindexes.choosing import all_choices, all_fits, count_choices, heaviest_fit, lot_apart
from fewindexes.covers import fewest_chains
from fewindexes.errors import BadPaper, TooMany
from fewindexes.joining import joined_index
from fewindexes.kinds import are_amounts, is_indexes, is_integer, is_numbers, is_tuple
from fewindexes.needs import need_needs
from fewindexes.serving import is_served
from fewindexes.trees import begins, need_leaves


def all_picks(needs):
    """The list of the tuples of what can be picked for each NEED."""
    return [(*need, None) for need in needs]


def need_worth_needs(columns, needs, worths, k):
    """Refuses what are no NEEDS, no WORTHS of them, no K, and NEEDS for which more than 300 ways can be picked."""
    need_needs(columns, needs)
    need_worths(len(needs), worths)
    need_few(6, k)
    if count_choices(all_picks(needs)) > 300:
        raise TooMany(300)


def sum_at(worths, numbers):
    """The sum of the WORTHS with some numbers."""
    return sum([worths[number] for number in numbers])


def chosen_among(picked):
    """A dict with the LOOKUP for each number of a NEED for which one was picked, by ascending numbers."""
    return {number: picked[number] for number in sorted(list(picked)) if picked[number] is not None}


def best_picks(needs, worths, k):
    """The LOOKUPS, by the numbers of their NEEDS, whose WORTHS are the most that at most K INDEXES serve."""
    best, found = 0, {}
    for things in all_choices(all_picks(needs)):
        chosen = chosen_among({number: thing for number, thing in enumerate(things)})
        total = sum_at(worths, list(chosen))
        if total > best and len(fewest_chains(list(chosen.values()))) <= k:
            best, found = total, chosen
    return found


def best_needsum(columns, needs, worths, k):
    """The greatest sum of the WORTHS of NEEDS that at most K INDEXES meet."""
    need_worth_needs(columns, needs, worths, k)
    return sum_at(worths, list(best_picks(needs, worths, k)))


def places_apart(chosen, fits):
    """The numbers of NEEDS, as many as can be, no two of whose LOOKUPS fit."""
    numbers = list(chosen)
    return tuple([numbers[place] for place in lot_apart(list(chosen.values()), fits)])


def tolls_tree(needs, worths, k, best, fits, things):
    """The TREE behind the things that were picked for the first NEEDS, BEST being told."""
    chosen = chosen_among({number: thing for number, thing in enumerate(things)})
    apart = places_apart(chosen, fits)
    if len(apart) > k:
        return ("apart", apart[:k + 1])
    # each WORTH is its own REBATE, so none leaves anything to TOLL
    if sum_at(worths, list(chosen)) + sum(worths[len(things):]) <= best:
        return ("tolls", 0, tuple([worths[number] for number in chosen]))
    trees = [tolls_tree(needs, worths, k, best, fits, (*things, thing)) for thing in (*needs[len(things)], None)]
    return ("need", len(things), tuple(trees))


def needbest_paper(columns, needs, worths, k):
    """A PAPER on the BEST of NEEDS."""
    need_worth_needs(columns, needs, worths, k)
    chosen = best_picks(needs, worths, k)
    lookups = list(chosen.values())
    indexes = [joined_index([lookups[place] for place in chain]) for chain in fewest_chains(lookups)]
    tree = tolls_tree(needs, worths, k, sum_at(worths, list(chosen)), all_fits(needs), ())
    return (tuple(indexes), tree)


def apart_holds(fits, k, chosen, numbers):
    """Whether a thing are K and one more numbers of NEEDS with LOOKUPS chosen, no two of which fit."""
    if not is_numbers(6, numbers) or len(numbers) != k + 1 or not all([number in chosen for number in numbers]):
        return False
    told = {number: chosen[number] for number in numbers}
    return len(places_apart(told, fits)) == len(numbers)


def tolls_hold(worths, k, total, fits, picked, toll, rebates):
    """Whether things are a TOLL and REBATES that show that what was picked leads to no more than the SUM."""
    chosen = chosen_among(picked)
    if not is_integer(toll) or toll < 0 or not are_amounts(len(chosen), rebates):
        return False
    beyond = [max(0, worths[number] - rebate) for number, rebate in zip(chosen, rebates)]
    if heaviest_fit(list(chosen.values()), beyond, fits) > toll:
        return False
    left = [number for number in range(len(worths)) if number not in picked]
    return k * toll + sum(rebates) + sum_at(worths, left) <= total


def leaf_holds(worths, k, total, fits, picked, leaf):
    """Whether a thing is an "apart" or a "tolls" TREE behind what was picked on the way to it."""
    if begins("apart", 2, leaf):
        return apart_holds(fits, k, chosen_among(picked), leaf[1])
    return begins("tolls", 3, leaf) and tolls_hold(worths, k, total, fits, picked, leaf[1], leaf[2])


def check_needbest(columns, needs, worths, k, paper):
    """The BEST of NEEDS, by a PAPER that holds."""
    need_worth_needs(columns, needs, worths, k)
    if not is_tuple(2, paper):
        raise BadPaper("form")
    indexes, tree = paper
    if not is_indexes(columns, indexes) or len(indexes) > k:
        raise BadPaper("indexes")
    met = [number for number, need in enumerate(needs) if any([is_served(indexes, lookup) for lookup in need])]
    total = sum_at(worths, met)
    leaves, fits = need_leaves(needs, (None,), tree), all_fits(needs)
    if leaves is None or not all([leaf_holds(worths, k, total, fits, picked, leaf) for picked, leaf in leaves]):
        raise BadPaper("tree")
    return total
