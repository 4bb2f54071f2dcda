"""Small INDEXES, LOOKUPS and TABLES, all that there are, and the definitions of DOC.md tried on them as they stand."""

from functools import lru_cache
from itertools import combinations, combinations_with_replacement, permutations, product
from random import Random

# Things of other kinds, to be put in the place of whatever a function wants.
ODD_THINGS = (None, 0, 1, -1, 9, 99, True, False, "x", "up", "", b"up", (), (0,), ("not",), [], [0], {}, {0: 1}, object)


class Oddity:
    """It says that it is equal to all, and breaks when it is ordered or measured."""

    def __eq__(self, other):
        return True

    def __lt__(self, other):
        raise RuntimeError("ordered")

    def __len__(self):
        raise RuntimeError("measured")

    __hash__ = None


class Thorny:
    """It breaks even when it is compared."""

    def __eq__(self, other):
        raise RuntimeError("compared")

    __hash__ = None


def all_sorts(columns):
    """All tuples of STEPS with these columns, no column twice."""
    found = []
    for many in range(len(columns) + 1):
        for turn in permutations(columns, many):
            found.extend(tuple(zip(turn, ways)) for ways in product(("up", "down"), repeat=many))
    return found


def all_lots(columns):
    return [lot for many in range(columns + 1) for lot in combinations(range(columns), many)]


def all_indexes(columns):
    return [steps for steps in all_sorts(range(columns)) if steps]


def all_lookups(columns):
    found = []
    for equal in all_lots(columns):
        others = [column for column in range(columns) if column not in equal]
        found.extend((equal, sort) for sort in all_sorts(others) if equal or sort)
    return sorted(found)


def all_tables(columns, values, most):
    """All TABLES of at most so many rows with these values."""
    rows = sorted(product(values, repeat=columns))
    return [table for many in range(most + 1) for table in combinations_with_replacement(rows, many)]


def less_by(steps, row, other):
    """Point 4: whether a row is less than another one by the STEPS."""
    for column, way in steps:
        if row[column] != other[column]:
            return (row[column] < other[column]) == (way == "up")
    return False


def in_order(steps, rows):
    """Whether none of the rows stands ahead of one that is less by the STEPS."""
    return not any(less_by(steps, later, ahead) for ahead, later in combinations(rows, 2))


def all_listings(table, index):
    """Point 4: all LISTINGS, by trying all turns of the rows."""
    return [rows for rows in set(permutations(table)) if in_order(index, rows)]


def is_kept(rows, lookup):
    """Point 5, of one LISTING: side by side, and none ahead of a lesser one."""
    equal, sort = lookup
    values = [tuple(row[column] for column in equal) for row in rows]
    for value in set(values):
        places = [at for at, told in enumerate(values) if told == value]
        if places[-1] - places[0] + 1 != len(places):
            return False
        if not in_order(sort, [rows[at] for at in places]):
            return False
    return True


def keeps(listings, lookup, way):
    """Point 5: whether a TABLE with these LISTINGS keeps the LOOKUP so."""
    return all(is_kept(rows if way == "forward" else rows[::-1], lookup) for rows in listings)


def serves_by_fact(index, lookup):
    """The Fact of point 5, word by word."""
    equal, sort = lookup
    sets = [set(equal) | {step[0] for step in sort[:many]} for many in range(len(sort) + 1)]
    starts = [{step[0] for step in index[:many]} for many in range(len(index) + 1)]
    turned = [(column, "up" if way == "down" else "down") for column, way in sort]
    in_it = all(step in index for step in sort) or all(step in index for step in turned)
    return in_it and all(told in starts for told in sets)


def served_table(columns):
    """For each LOOKUP the set of all INDEXES that serve it."""
    indexes = all_indexes(columns)
    return {lookup: {index for index in indexes if serves_by_fact(index, lookup)} for lookup in all_lookups(columns)}


def changed(thing, others=ODD_THINGS):
    """The thing changed at each place, once in each way: put out, twice there, or another thing there."""
    yield from others
    if isinstance(thing, tuple):
        yield list(thing)
        yield (*thing, None)
        for at, part in enumerate(thing):
            yield thing[:at] + thing[at + 1:]
            yield thing[:at] + (part,) + thing[at:]
            for other in changed(part, others):
                yield thing[:at] + (other,) + thing[at + 1:]
    elif type(thing) is int:
        yield from (thing - 1, thing + 1)
    elif thing in ("up", "down"):
        yield "down" if thing == "up" else "up"


def error_of(call, *given):
    """The error that a call raises, told as its class and its fields, or None."""
    try:
        call(*given)
    except (ValueError, OverflowError, KeyError, RuntimeError) as error:
        return (type(error).__name__, error.__dict__)
    return None


def has_sets(lookup):
    """The SETS of a LOOKUP, as Python's sets."""
    equal, sort = lookup
    return [set(equal) | {step[0] for step in sort[:many]} for many in range(len(sort) + 1)]


def fit_by_fact(one, other):
    """The Fact of point 7 about two LOOKUPS, word by word."""
    if not all(first <= second or second <= first for first in has_sets(one) for second in has_sets(other)):
        return False
    ways, theirs = dict(one[1]), dict(other[1])
    return all((ways[less] == ways[more]) == (theirs[less] == theirs[more])
               for less, more in combinations(sorted(set(ways) & set(theirs)), 2))


def some_demands(columns, sizes, many, seed):
    """Many DEMANDS by a random source that begins alike each time: of long LOOKUPS, of short ones, of near ones."""
    source = Random(seed)
    found = []
    for at in range(many):
        wanted, lookups = source.choice(sizes), set()
        turn = source.sample(range(columns), columns)
        while len(lookups) < wanted:
            if at % 3 != 0:
                source.shuffle(turn)
            elif source.random() < 0.6:
                low = source.randrange(columns)
                turn[low:low + 2] = turn[low:low + 2][::-1]
            lookups.add(some_lookup(source, turn))
        found.append((columns, tuple(sorted(lookups))))
    return found


def some_lookup(source, turn):
    """A LOOKUP of the first columns in a turn."""
    while True:
        equal, sorted_by = source.randrange(len(turn)), source.randrange(4)
        sort = tuple((column, source.choice(("up", "up", "down"))) for column in turn[equal:equal + sorted_by])
        if equal or sort:
            return (tuple(sorted(turn[:equal])), sort)


def served_sets(demand, served):
    """For each LOOKUP of a DEMAND the INDEXES that serve it, by what served_table tells."""
    return [served[lookup] for lookup in demand[1]]


def fewest_by_all_indexes(demand, served):
    """Point 10: the least number of INDEXES, by trying all that there are."""
    everyone = (1 << len(demand[1])) - 1
    masks = {}
    for number, indexes in enumerate(served_sets(demand, served)):
        for index in indexes:
            masks[index] = masks.get(index, 0) | 1 << number
    kinds, reached, many = set(masks.values()), {0}, 0
    while everyone not in reached:
        reached = {mask | kind for mask in reached for kind in kinds}
        many += 1
    return many


def lots_by_all(demand):
    """All lots of LOOKUPS that are APART, by trying all there are; two fit by the Fact."""
    lookups = demand[1]
    fit = {(one, other) for one, other in combinations(range(len(lookups)), 2)
           if fit_by_fact(lookups[one], lookups[other])}
    return [lot for many in range(1, len(lookups) + 1) for lot in combinations(range(len(lookups)), many)
            if not any(pair in fit for pair in combinations(lot, 2))]


def greatest_by_all(demand):
    """The greatest ones of them, ascending."""
    lots = lots_by_all(demand)
    most = max(len(lot) for lot in lots)
    return tuple(sorted(lot for lot in lots if len(lot) == most))


def is_within_by_all(one, other, served):
    """Point 6: whether each INDEX that serves the LOOKUP other serves the LOOKUP one."""
    return served[other] <= served[one]


def bare_by_all(demand, served):
    """Point 8: the numbers of the BARE LOOKUPS."""
    lookups = list(enumerate(demand[1]))
    return [at for at, one in lookups
            if not any(at != place and is_within_by_all(one, other, served)
                       and not (place > at and is_within_by_all(other, one, served)) for place, other in lookups)]


def ahead_by_all(demand, served):
    """Point 8: the pairs of numbers of BARE LOOKUPS, the one AHEAD of the other."""
    bare = bare_by_all(demand, served)
    lookups = demand[1]
    return {(one, other) for one in bare for other in bare
            if one != other and served[lookups[one]] & served[lookups[other]]
            and len(lookups[one][0]) < len(lookups[other][0])}


def masks_by_all(demand, served):
    """For each INDEX that serves any LOOKUP of a DEMAND those that it serves, a bit for each."""
    masks = {}
    for number, indexes in enumerate(served_sets(demand, served)):
        for index in indexes:
            masks[index] = masks.get(index, 0) | 1 << number
    return masks


def reached_masks(kinds, many):
    """What one, two and so on of some kinds of masks have together: a set for each number."""
    reached, found = {0}, []
    for _ in range(many):
        reached = {mask | kind for mask in reached for kind in kinds} | reached
        found.append(reached)
    return found


def are_amounts(thing, many, most=None):
    """Whether a thing, of any kind, is a tuple of so many integers from 0 on."""
    if type(thing) is not tuple or len(thing) != many:
        return False
    return all(type(part) is int and part >= 0 and (most is None or part <= most) for part in thing)


def are_indexes(thing, columns, most=None):
    """Whether a thing, of any kind, is a tuple of INDEXES, at most so many."""
    if type(thing) is not tuple or most is not None and len(thing) > most:
        return False
    return all(is_plain(index) and repr(index) in known_indexes(columns) for index in thing)


@lru_cache(None)
def known_indexes(columns):
    """All INDEXES, as they are written."""
    return set(map(repr, all_indexes(columns)))


def is_plain(thing):
    """Whether a thing is made of tuples, integers and strings alone."""
    return all(map(is_plain, thing)) if type(thing) is tuple else type(thing) in (int, str)


# Things of other kinds, those that break what compares or orders them among them.
THORNS = ODD_THINGS + (Oddity(), Thorny())
