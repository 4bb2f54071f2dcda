"""STOCKS of many kinds, and what they leave LOST by the Fact of point 5."""

from random import Random

from cases import serves_by_fact


def some_stocks(columns, demand, seed):
    """STOCKS of few and many INDEXES; some of them serve LOOKUPS of the DEMAND as short as can be."""
    source = Random(seed)
    found = [()]
    for many in (1, 2, 3, 5, 8):
        indexes = set()
        for _ in range(many):
            if source.random() < 0.5:
                equal, sort = source.choice(demand[1])
                first = [(column, source.choice(("up", "down"))) for column in source.sample(equal, len(equal))]
                indexes.add((*first, *sort))
            else:
                turn = source.sample(range(columns), source.randint(1, columns))
                indexes.add(tuple((column, source.choice(("up", "down"))) for column in turn))
        found.append(tuple(sorted(indexes)))
    return found


def lost_by_all(demand, stock):
    return tuple(number for number, lookup in enumerate(demand[1])
                 if not any(serves_by_fact(index, lookup) for index in stock))


def left_of(demand, stock):
    """The DEMAND of the LOST LOOKUPS alone."""
    return (demand[0], tuple(demand[1][number] for number in lost_by_all(demand, stock)))
