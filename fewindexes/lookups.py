"""LOOKUPS by themselves and beside one another; all that is passed is known to be right."""

from fewindexes.steps import columns_of, turned_steps


def sets_in(lookup):
    """The tuple of the SETS of a LOOKUP."""
    equal, sort = lookup
    behind = columns_of(sort)
    return tuple([tuple(sorted([*equal, *behind[:many]])) for many in range(len(sort) + 1)])


def all_are_in(steps, others):
    """Whether all STEPS are in the other ones, all as there, or all turned."""
    if all([step in others for step in steps]):
        return True
    return all([step in others for step in turned_steps(steps)])


def lies_within(one, other):
    """Whether the LOOKUP one is WITHIN the LOOKUP other, by the Fact."""
    theirs = sets_in(other)
    if any([lot != () and lot not in theirs for lot in sets_in(one)]):
        return False
    # by one STEP alone any WAY is had by an INDEX read this way about or the other
    return len(one[1]) < 2 or all_are_in(one[1], other[1])


def is_bare(lookups, number):
    """Whether the LOOKUP with the number is BARE among all of them."""
    for place, other in enumerate(lookups):
        if place != number and lies_within(lookups[number], other):
            if place < number or not lies_within(other, lookups[number]):
                return False
    return True


def bare_numbers(lookups):
    """The list of the numbers of the BARE ones, ascending."""
    return [number for number in range(len(lookups)) if is_bare(lookups, number)]


def set_bits(lookup):
    """The list of the SETS of a LOOKUP as integers, each with a bit for each column."""
    equal, sort = lookup
    found = [sum([1 << column for column in equal])]
    for column in columns_of(sort):
        found.append(found[-1] + (1 << column))
    return found


def clashing_sets(one, other):
    """The numbers of a SET of the one and of a SET of the other, neither of which has all of the other, or None."""
    theirs = set_bits(other)
    for at, bits in enumerate(set_bits(one)):
        for place, others in enumerate(theirs):
            if (bits & others) not in (bits, others):
                return (at, place)
    return None


def clashing_columns(one, other):
    """Two columns by which both sort, with like WAYS in just one of them, the lesser first, or None."""
    ways, theirs = dict(one[1]), dict(other[1])
    shared = sorted([column for column in ways if column in theirs])
    for place, column in enumerate(shared):
        for ahead in shared[:place]:
            if (ways[ahead] == ways[column]) != (theirs[ahead] == theirs[column]):
                return (ahead, column)
    return None


def do_two_fit(one, other):
    """Whether two LOOKUPS fit, by the Fact."""
    return clashing_sets(one, other) is None and clashing_columns(one, other) is None


def goes_ahead(one, other):
    """Whether of two BARE LOOKUPS the one is AHEAD of the other."""
    return len(one[0]) < len(other[0]) and do_two_fit(one, other)
