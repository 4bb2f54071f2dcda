"""LOOKUPS by themselves and beside one another; all that is passed is known to be right."""

from fewindexes.steps import columns_of, turned_steps


def sets_in(lookup):
    """The tuple of the SETS of a LOOKUP."""
    equal, sort = lookup
    behind = columns_of(sort)
    return tuple([tuple(sorted([*equal, *behind[:many]])) for many in range(len(sort) + 1)])


def all_are_in(steps, others):
    """Whether all STEPS are in the other ones, all as there, or all turned."""
    if all([step in others for step in steps]):
        return True
    return all([step in others for step in turned_steps(steps)])


def set_bits(lookup):
    """The list of the SETS of a LOOKUP as integers, each with a bit for each column."""
    equal, sort = lookup
    found = [sum([1 << column for column in equal])]
    for column in columns_of(sort):
        found.append(found[-1] + (1 << column))
    return found


def sets_form(lookup):
    """The pair of the SETS of a LOOKUP, as set_bits tells them, and of its SORT."""
    return set_bits(lookup), lookup[1]


def is_form_within(one, other):
    """Whether a LOOKUP with the form one is WITHIN a LOOKUP with the form other, by the Fact."""
    if any([bits != 0 and bits not in other[0] for bits in one[0]]):
        return False
    # by one STEP alone any WAY is had by an INDEX read this way about or the other
    return len(one[1]) < 2 or all_are_in(one[1], other[1])


def lies_within(one, other):
    """Whether the LOOKUP one is WITHIN the LOOKUP other."""
    return is_form_within(sets_form(one), sets_form(other))


def each_two(things, are_so):
    """Whether each two of some things are so."""
    for place, thing in enumerate(things):
        if not all([are_so(thing, other) for other in things[:place]]):
            return False
    return True


def no_two(things, are_so):
    """Whether no two of some things are so."""
    for place, thing in enumerate(things):
        if any([are_so(thing, other) for other in things[:place]]):
            return False
    return True


def is_outer(things, is_inside, number):
    """Whether the thing with the number is inside no other one but such as come behind it and are inside it, too."""
    for place, other in enumerate(things):
        if place != number and is_inside(things[number], other):
            if place < number or not is_inside(other, things[number]):
                return False
    return True


def outer_numbers(things, is_inside):
    """The list of the numbers of the outer ones among things, ascending."""
    return [number for number in range(len(things)) if is_outer(things, is_inside, number)]


def bare_numbers(lookups):
    """The list of the numbers of the BARE ones, ascending."""
    return outer_numbers([sets_form(lookup) for lookup in lookups], is_form_within)


def clashing_sets(one, other):
    """The numbers of a SET of the one and of a SET of the other, neither of which has all of the other, or None."""
    theirs = set_bits(other)
    for at, bits in enumerate(set_bits(one)):
        for place, others in enumerate(theirs):
            if (bits & others) not in (bits, others):
                return (at, place)
    return None


def clashing_columns(one, other):
    """Two columns by which both sort, with like WAYS in just one of them, the lesser first, or None."""
    ways, theirs = dict(one[1]), dict(other[1])
    shared = sorted([column for column in ways if column in theirs])
    for place, column in enumerate(shared):
        for ahead in shared[:place]:
            if (ways[ahead] == ways[column]) != (theirs[ahead] == theirs[column]):
                return (ahead, column)
    return None


def do_two_fit(one, other):
    """Whether two LOOKUPS fit, by the Fact."""
    return clashing_sets(one, other) is None and clashing_columns(one, other) is None


def goes_ahead(one, other):
    """Whether of two BARE LOOKUPS the one is AHEAD of the other."""
    return len(one[0]) < len(other[0]) and do_two_fit(one, other)
