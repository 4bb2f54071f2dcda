"""LOOKUPS that fit, the PAPERS on it, and which of two BARE ones is AHEAD."""

from fewindexes.arguments import need_numbers
from fewindexes.demands import need_demand
from fewindexes.errors import BadNumber, BadPaper
from fewindexes.joining import do_all_fit, joined_index
from fewindexes.kinds import is_index, is_integer, is_number
from fewindexes.lookups import bare_numbers, clashing_columns, clashing_sets, goes_ahead, set_bits
from fewindexes.papers import paper_word
from fewindexes.serving import serves

FIT_FORMS = (("fit", 2), ("sets", 5), ("ways", 5))


def lookups_at(demand, numbers):
    """The list of the LOOKUPS with these numbers; refuses what is no DEMAND, or what are no NUMBERS."""
    need_demand(demand)
    need_numbers(demand, numbers)
    return [demand[1][number] for number in numbers]


def do_fit(demand, numbers):
    """Whether the LOOKUPS with these numbers fit."""
    return do_all_fit(lookups_at(demand, numbers))


def index_for(demand, numbers):
    """An INDEX with as few STEPS as can be that serves the LOOKUPS with these numbers, or None."""
    lookups = lookups_at(demand, numbers)
    if not do_all_fit(lookups):
        return None
    return joined_index(lookups)


def fit_paper(demand, numbers):
    """A PAPER on whether the LOOKUPS with these numbers fit."""
    lookups = lookups_at(demand, numbers)
    for place, other in enumerate(lookups):
        for at, one in enumerate(lookups[:place]):
            first, second = numbers[at], numbers[place]
            sets = clashing_sets(one, other)
            if sets is not None:
                return ("sets", first, sets[0], second, sets[1])
            columns = clashing_columns(one, other)
            if columns is not None:
                return ("ways", first, second, *columns)
    return ("fit", joined_index(lookups))


def serves_each(columns, thing, lookups):
    """Whether a thing is an INDEX that serves all LOOKUPS."""
    return is_index(columns, thing) and all([serves(thing, lookup) for lookup in lookups])


def are_two_of(numbers, first, second):
    """Whether two things are two of the numbers, the lesser first."""
    if not is_integer(first) or not is_integer(second):
        return False
    return first < second and first in numbers and second in numbers


def sets_clash(lookups, paper):
    """Whether of the LOOKUPS that a PAPER names two SETS are as it tells."""
    _, first, at, second, place = paper
    ours, theirs = set_bits(lookups[first]), set_bits(lookups[second])
    if not is_number(len(ours), at) or not is_number(len(theirs), place):
        return False
    return (ours[at] & theirs[place]) not in (ours[at], theirs[place])


def ways_clash(lookups, paper):
    """Whether the LOOKUPS that a PAPER names sort by two columns as it tells."""
    _, first, second, less, more = paper
    ours, theirs = dict(lookups[first][1]), dict(lookups[second][1])
    if not is_integer(less) or not is_integer(more) or not less < more:
        return False
    if not all([column in ways for column in (less, more) for ways in (ours, theirs)]):
        return False
    return (ours[less] == ours[more]) != (theirs[less] == theirs[more])


def fit_holds(demand, numbers, paper):
    """Whether a PAPER of a right form is as told."""
    columns, lookups = demand
    if paper[0] == "fit":
        return serves_each(columns, paper[1], [lookups[number] for number in numbers])
    if paper[0] == "sets":
        return are_two_of(numbers, paper[1], paper[3]) and sets_clash(lookups, paper)
    return are_two_of(numbers, paper[1], paper[2]) and ways_clash(lookups, paper)


def check_fit(demand, numbers, paper):
    """The first word of a PAPER that holds."""
    need_demand(demand)
    need_numbers(demand, numbers)
    word = paper_word(FIT_FORMS, paper)
    if not fit_holds(demand, numbers, paper):
        raise BadPaper(word)
    return word


def is_ahead(demand, one, other):
    """Whether the BARE LOOKUP with the number one is AHEAD of that with the number other."""
    _, lookups = need_demand(demand)
    bare = bare_numbers(lookups)
    if not is_number(len(lookups), one) or one not in bare:
        raise BadNumber(one)
    if not is_number(len(lookups), other) or other not in bare:
        raise BadNumber(other)
    return goes_ahead(lookups[one], lookups[other])
