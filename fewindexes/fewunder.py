"""The fewest INDEXES that serve a DEMAND UNDER TELLS, and the PAPERS on it."""

from fewindexes.covers import extended_lots
from fewindexes.demands import need_demand
from fewindexes.errors import BadPaper
from fewindexes.kinds import are_indexes, is_numbers, is_tuple
from fewindexes.lookups import no_two
from fewindexes.telling import told_form
from fewindexes.tells import need_tells
from fewindexes.underfitting import do_forms_fit, joined_under, under_chains
from fewindexes.underserving import way_told


def forms_of(demand, tells):
    """The list of the forms of all LOOKUPS; refuses what is no DEMAND, or what are no TELLS of its COLUMNS."""
    columns, lookups = need_demand(demand)
    need_tells(columns, tells)
    return [told_form(tells, lookup) for lookup in lookups]


def fewest_under(demand, tells):
    """The least number of INDEXES such that each LOOKUP is served UNDER TELLS by one of them."""
    return len(under_chains(forms_of(demand, tells)))


def fewunder_paper(demand, tells):
    """A PAPER on the least number."""
    forms = forms_of(demand, tells)
    chains = under_chains(forms)
    indexes = [joined_under(tells, [forms[number] for number in chain]) for chain in chains]
    apart = [[not do_forms_fit(one, other) for other in forms] for one in forms]
    return (tuple(indexes), extended_lots(apart, (), len(chains))[0])


def serve_all_under(tells, indexes, lookups):
    """Whether each LOOKUP is served UNDER TELLS by one of the INDEXES."""
    for lookup in lookups:
        if not any([way_told(tells, index, lookup) is not None for index in indexes]):
            return False
    return True


def check_fewunder(demand, tells, paper):
    """The least number, by a PAPER that holds."""
    forms = forms_of(demand, tells)
    columns, lookups = demand
    if not is_tuple(2, paper):
        raise BadPaper("form")
    indexes, numbers = paper
    if not are_indexes(columns, indexes) or not serve_all_under(tells, indexes, lookups):
        raise BadPaper("indexes")
    if not is_numbers(len(lookups), numbers) or len(numbers) != len(indexes):
        raise BadPaper("numbers")
    if not no_two([forms[number] for number in numbers], do_forms_fit):
        raise BadPaper("numbers")
    return len(numbers)
