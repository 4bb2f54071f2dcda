"""LOOKUPS beside one another UNDER TELLS; all that is passed is known to be right.

A form is what TELLS leave of a LOOKUP: the list of its CLOSED SETS, as bits,
and its CUT.
"""

from fewindexes.covers import chains_among
from fewindexes.joining import next_way
from fewindexes.lookups import clashing_columns, outer_numbers
from fewindexes.steps import turned_steps
from fewindexes.telling import closed_bits, columns_in


def is_below(less, more):
    """Whether a LOT has all of another one, and more."""
    return less != more and less & more == less


def steps_between(form):
    """The column of the STEP of the CUT for each pair of CLOSED SETS, next to one another, of a form."""
    closed, cut = form
    return {(closed[place], closed[place + 1]): step[0] for place, step in enumerate(cut)}


def lie_apart(closed, between):
    """Whether none of some CLOSED SETS lies between two that are next to one another."""
    return not any([is_below(less, bits) and is_below(bits, more) for less, more in between for bits in closed])


def do_forms_fit(one, other):
    """Whether two LOOKUPS with these forms fit UNDER TELLS, by the Fact."""
    for bits in one[0]:
        if not all([bits & others in (bits, others) for others in other[0]]):
            return False
    ours, theirs = steps_between(one), steps_between(other)
    if not lie_apart(one[0], theirs) or not lie_apart(other[0], ours):
        return False
    if any([theirs.get(pair, column) != column for pair, column in ours.items()]):
        return False
    return clashing_columns(one, other) is None


def is_stretched(one, other):
    """Whether a LOOKUP with the form one is a STRETCH of a LOOKUP with the form other.

    The CLOSED SETS behind the first one hang on it and on the columns of the CUT alone.
    """
    closed, cut = one
    others, steps = other
    if closed[0] not in others:
        return False
    at = others.index(closed[0])
    return steps[at:at + len(cut)] in (cut, turned_steps(cut))


def joined_under(tells, forms):
    """An INDEX that serves, UNDER TELLS, all LOOKUPS with these forms, which fit.

    From each CLOSED SET to the next greater one of any LOOKUP it goes by the
    one STEP that a CUT has there, or by all columns that are wanting.
    """
    between = {pair: column for form in forms for pair, column in steps_between(form).items()}
    steps, ahead = (), closed_bits(tells, 0)
    for _, bits in sorted([(len(columns_in(bits)), bits) for closed, _ in forms for bits in closed]):
        wanted = columns_in(bits - ahead)
        if (ahead, bits) in between:
            wanted = (between[ahead, bits],)
        for column in wanted:
            steps = (*steps, (column, next_way(forms, steps, column)))
        ahead = bits
    return steps if steps != () else ((0, "up"),)


def under_followers(forms):
    """For each number of a LONE LOOKUP the list of the numbers of those that it is ahead of.

    Of two LONE ones that fit the one whose first CLOSED SET is less is ahead;
    what is ahead of a second one is ahead of all that this is ahead of.
    """
    lone = outer_numbers(forms, is_stretched)
    followers = {}
    for number in lone:
        one = forms[number]
        ahead = [other for other in lone if is_below(one[0][0], forms[other][0][0])]
        followers[number] = [other for other in ahead if do_forms_fit(one, forms[other])]
    return followers


def under_chains(forms):
    """A list of lists of the numbers of all LONE LOOKUPS, as few lists as can be, those in each one fitting."""
    followers = under_followers(forms)
    return chains_among(list(followers), followers)
