"""NEEDS of many kinds, and whether INDEXES meet them by the words of point 24."""

from random import Random

from cases import all_lookups, some_lookup

ALL = {columns: all_lookups(columns) for columns in (1, 2, 3)}


def some_needs(columns, sizes, many, seed):
    """Many NEEDS by a random source that begins alike each time."""
    source = Random(seed)
    found = []
    for _ in range(many):
        needs = []
        for size in source.choice(sizes):
            lookups = set()
            while len(lookups) < size:
                if needs and source.random() < 0.2:
                    lookups.add(source.choice(source.choice(needs)))
                elif columns < 4:
                    lookups.add(source.choice(ALL[columns]))
                else:
                    lookups.add(some_lookup(source, source.sample(range(columns), columns)))
            needs.append(tuple(sorted(lookups)))
        found.append(tuple(needs))
    return found


def met_by(served, needs, indexes):
    """Point 24: whether for each NEED one of the INDEXES serves one of its LOOKUPS."""
    return all(any(served[lookup] & set(indexes) for lookup in need) for need in needs)


def need_masks(served, needs):
    """For each INDEX that meets any NEED those that it meets, a bit for each."""
    masks = {}
    for number, need in enumerate(needs):
        for index in set().union(*[served[lookup] for lookup in need]):
            masks[index] = masks.get(index, 0) | 1 << number
    return masks


def wrong_needs(good):
    """What are no NEEDS of three columns, each with the number that is told; good is a NEED."""
    one, two = ((0,), ()), ((1,), ())
    wrong = [(whole, None) for whole in (None, 0, True, "x", [], [good], {}, (), (good,) * 7, (None,) * 7)]
    for need in (None, 0, True, "x", (), [], {}, [one], (one, one), (two, one), (one, None), (None,), (((), ()),),
                 (((3,), ()),), (((True,), ()),), (one, [(1,), ()]), tuple(ALL[3][:25]), one):
        wrong += [((need,), 0), ((good, need), 1), ((good,) * 5 + (need,), 5), ((good, need, None), 1)]
    return wrong
