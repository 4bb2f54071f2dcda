"""NEEDS and the LOOKUPS that are chosen for them; all that is passed is known to be right."""

from fewindexes.lookups import do_two_fit


def count_choices(needs):
    """How many CHOICES there are."""
    many = 1
    for need in needs:
        many = many * len(need)
    return many


def all_choices(needs):
    """The list of all CHOICES, each as the tuple of the LOOKUPS that are chosen."""
    choices = [()]
    for need in needs:
        choices = [(*choice, lookup) for choice in choices for lookup in need]
    return choices


def all_fits(needs):
    """A dict that tells of each two LOOKUPS of NEEDS, as a pair, whether they fit."""
    lookups = [lookup for need in needs for lookup in need]
    fits = {}
    for one in lookups:
        for other in lookups:
            if (one, other) not in fits:
                fits[one, other] = fits[other, one] = do_two_fit(one, other)
    return fits


def lot_apart(chosen, fits):
    """The first of the longest ascending tuples of places of LOOKUPS, no two of which fit."""
    lots = [()]
    for place, lookup in enumerate(chosen):
        lots = lots + [(*lot, place) for lot in lots if not any([fits[lookup, chosen[at]] for at in lot])]
    return min([(-len(lot), lot) for lot in lots])[1]


def heaviest_fit(chosen, weights, fits):
    """The greatest sum of the weights of LOOKUPS that fit; one that is there twice fits itself."""
    lots = [()]
    for place, lookup in enumerate(chosen):
        lots = lots + [(*lot, place) for lot in lots if all([fits[lookup, chosen[at]] for at in lot])]
    return max([sum([weights[place] for place in lot]) for lot in lots])
