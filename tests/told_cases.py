"""Small TELLS, and the definitions of points 20 to 23 tried as they stand."""

from itertools import combinations
from random import Random

from cases import all_lookups, all_lots, all_tables


def all_pairs(columns):
    """All pairs (X, Y) of LOTS, Y not ()."""
    return [(known, told) for known in all_lots(columns) for told in all_lots(columns) if told]


def all_tells(columns, most):
    """All TELLS of at most so many pairs."""
    pairs = sorted(all_pairs(columns))
    return [tells for many in range(most + 1) for tells in combinations(pairs, many)]


def some_tells(columns, many, seed, most=8):
    """Many TELLS by a random source that begins alike each time, of few and of many pairs, short LOTS more often."""
    source = Random(seed)
    found = [()]
    while len(found) < many:
        pairs = set()
        for _ in range(source.randint(1, most)):
            known = source.sample(range(columns), min(columns, source.choice((0, 1, 1, 1, 2, 2, 3))))
            told = source.sample(range(columns), min(columns, source.choice((1, 1, 1, 2))))
            pairs.add((tuple(sorted(known)), tuple(sorted(told))))
        found.append(tuple(sorted(pairs)))
    return found


def obeys_by_rows(tells, table):
    """Point 20: whether for each pair all rows alike at X are alike at Y, too."""
    for known, told in tells:
        for row in table:
            for other in table:
                if all(row[at] == other[at] for at in known) and not all(row[at] == other[at] for at in told):
                    return False
    return True


def closure_by_tables(columns, tells, lot):
    """Point 20: all columns at which two rows that obey are alike, whenever they are at the LOT."""
    pairs = [table for table in all_tables(columns, (0, 1), 2) if len(table) == 2 and obeys_by_rows(tells, table)]
    alike = [table for table in pairs if all(table[0][at] == table[1][at] for at in lot)]
    return tuple(column for column in range(columns) if all(one[column] == other[column] for one, other in alike))


def closure_by_pairs(tells, lot):
    """Point 20, the other way: one begins with the LOT, and adds Y, whenever all of X are there."""
    found = set(lot)
    for _ in range(9):
        for known, told in tells:
            if set(known) <= found:
                found |= set(told)
    return found


def cut_by_words(tells, lot, steps):
    """Point 20: the STEPS whose column is not in the CLOSURE of the LOT and of all columns ahead of it."""
    return tuple(step for at, step in enumerate(steps)
                 if step[0] not in closure_by_pairs(tells, {*lot, *[ahead[0] for ahead in steps[:at]]}))


def closed_by_words(tells, lookup):
    """Point 21: the CLOSURES of the SETS, in turn, each once."""
    equal, sort = lookup
    found = []
    for many in range(len(sort) + 1):
        closed = tuple(sorted(closure_by_pairs(tells, {*equal, *[step[0] for step in sort[:many]]})))
        if closed not in found:
            found.append(closed)
    return found


def turned(steps):
    return tuple((column, "up" if way == "down" else "down") for column, way in steps)


def serves_under(tells, index, lookup):
    """The Fact of point 21, word by word: the ways, "forward" and "backward"."""
    wanted = closure_by_pairs(tells, lookup[0])
    cut = cut_by_words(tells, lookup[0], lookup[1])
    ways = set()
    for many in range(len(index) + 1):
        lot = [step[0] for step in index[:many]]
        if closure_by_pairs(tells, lot) == wanted:
            behind = cut_by_words(tells, lot, index[many:])[:len(cut)]
            ways |= {way for way, told in (("forward", cut), ("backward", turned(cut))) if behind == told}
    return ways


def served_under(columns, tells, indexes):
    """For each LOOKUP the set of those of the INDEXES that serve it UNDER TELLS."""
    return {lookup: {index for index in indexes if serves_under(tells, index, lookup)}
            for lookup in all_lookups(columns)}


def kinds_of_tells(columns, most):
    """Of all TELLS of at most so many pairs one for each family of CLOSURES."""
    found = {}
    for tells in all_tells(columns, most):
        found.setdefault(tuple(tuple(sorted(closure_by_pairs(tells, lot))) for lot in all_lots(columns)), tells)
    return list(found.values())


def fit_under_by_fact(tells, one, other):
    """The Fact of point 22 about two LOOKUPS, word by word."""
    ours, theirs = [[set(lot) for lot in closed_by_words(tells, lookup)] for lookup in (one, other)]
    cut, steps = [cut_by_words(tells, *lookup) for lookup in (one, other)]
    if not all(first <= second or second <= first for first in ours for second in theirs):
        return False
    for some, others in ((ours, theirs), (theirs, ours)):
        for lot in some:
            if any(low < lot < high for low, high in zip(others, others[1:])):
                return False
    for at, pair in enumerate(zip(ours, ours[1:])):
        for place, told in enumerate(zip(theirs, theirs[1:])):
            if pair == told and cut[at][0] != steps[place][0]:
                return False
    ways, turns = dict(cut), dict(steps)
    return all((ways[less] == ways[more]) == (turns[less] == turns[more])
               for less, more in combinations(sorted(set(ways) & set(turns)), 2))
