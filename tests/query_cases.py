"""Small PARTS and TERMS, and the definitions of points 27 to 31 tried as they stand."""

from itertools import product
from random import Random

from cases import all_listings, all_lots, all_sorts, in_order

WAYS = ("forward", "backward")


def all_parts(columns):
    """All PARTS of so many columns."""
    found = []
    for equal in all_lots(columns):
        others = [column for column in range(columns) if column not in equal]
        lots = [lot for lot in all_lots(columns) if len(lot) <= 3 and not set(lot) & set(equal)]
        found += list(product([equal], [None, *others], lots, all_sorts(others)))
    return found


def some_part(source, columns):
    """A PART by a random source: often one that an INDEX can do."""
    turn = source.sample(range(columns), columns)
    many = source.randint(0, min(3, columns))
    equal, others = tuple(sorted(turn[:many])), turn[many:]
    sort = tuple((column, source.choice(("up", "down"))) for column in others[:source.randint(0, len(others))])
    together = others[:source.randint(0, min(3, len(others)))]
    between = source.choice([None, *others[:1]])
    if source.random() < 0.2:
        source.shuffle(others)
        together, between = others[:source.randint(0, min(2, len(others)))], source.choice([None, *others])
    return (equal, between, tuple(sorted(together)), sort)


def side_by_side(places):
    return not places or places[-1] - places[0] + 1 == len(places)


def is_right(rows, part, value, first, last):
    """Point 28, of one LISTING, the values at EQUAL and a pair of bounds."""
    equal, between, together, sort = part
    places = [at for at, row in enumerate(rows) if tuple(row[column] for column in equal) == value
              and (between is None or first <= row[between] <= last)]
    if not side_by_side(places):
        return False
    for alike in {tuple(rows[at][column] for column in together) for at in places}:
        if not side_by_side([at for at in places if tuple(rows[at][column] for column in together) == alike]):
            return False
    return in_order(sort, [rows[at] for at in places])


def done_ways(table, index, part, listings=None):
    """Point 28, of one TABLE: the ways, for all its LISTINGS, all values and all bounds."""
    equal, between, _, _ = part
    values = {tuple(row[column] for column in equal) for row in table}
    told = sorted({row[between] for row in table}) if between is not None else [0]
    bounds = [(first, last) for first in [told[0] - 1, *told] for last in [*told, told[-1] + 1]] if told else []
    found = []
    for way in WAYS:
        turned = [rows if way == "forward" else rows[::-1] for rows in listings or all_listings(table, index)]
        if all(is_right(rows, part, value, *pair) for rows in turned for value in values for pair in bounds):
            found.append(way)
    return found


def does_by_fact(index, part):
    """The Fact of point 28, word by word: the ways."""
    equal, between, together, sort = part
    starts = [{step[0] for step in index[:many]} for many in range(len(index) + 1)]
    wanted = [set(equal), set(equal) | set(together)]
    wanted += [set(equal) | {step[0] for step in sort[:many]} for many in range(1, len(sort) + 1)]
    if between is not None:
        wanted.append({*equal, between})
    if not all(lot in starts for lot in wanted):
        return []
    turned = [(column, "up" if way == "down" else "down") for column, way in sort]
    return [way for way, steps in zip(WAYS, (sort, turned)) if all(step in index for step in steps)]


def is_free(part):
    return part == ((), None, (), ())


def lookups_by_words(columns, part):
    """Point 29: (EQUAL, S) for all tuples S of STEPS that are as told."""
    equal, between, together, sort = part
    if is_free(part):
        return ()
    found = []
    for steps in all_sorts([column for column in range(columns) if column not in equal]):
        names = [step[0] for step in steps]
        behind = {column for column in together if column not in [step[0] for step in sort]}
        if steps[:len(sort)] != sort or set(names[len(sort):]) != behind:
            if sort or together or between is None or names != [between]:
                continue
        elif between is not None and not sort and not together:
            continue
        if between is not None and names[:1] != [between] or set(names[:len(together)]) != set(together):
            continue
        if not sort and steps and steps[0][1] != "up":
            continue
        found.append((equal, steps))
    return tuple(sorted(found))


def parts_by_words(term):
    """Point 30: the PARTS of a TERM, each as a dict that is put together at last."""
    return tuple((tuple(sorted(part["equal"])), part["between"], tuple(sorted(part["together"])), tuple(part["sort"]))
                 for part in worded(term))


def worded(term):
    word = term[0]
    if word == "rows":
        return [{"equal": set(), "between": None, "together": set(), "sort": []}]
    if word == "either":
        return worded(term[1]) + worded(term[2])
    parts = worded(term[1])
    for part in parts:
        if word == "equal":
            part["equal"].add(term[2])
            part["together"].discard(term[2])
            part["sort"] = [step for step in part["sort"] if step[0] != term[2]]
            if part["between"] == term[2]:
                part["between"] = None
        elif word == "between" and term[2] not in part["equal"]:
            part["between"] = term[2]
        elif word == "grouped":
            part["together"] = set(term[2]) - part["equal"]
        elif word == "sorted":
            part["sort"] = [step for step in term[2] if step[0] not in part["equal"]]
        elif word == "turned":
            part["sort"] = [(column, "down" if way == "up" else "up") for column, way in part["sort"]]
    return parts


def some_term(source, columns, words):
    """A TERM of so many words, or a few less, by a random source."""
    if words <= 1:
        return ("rows",)
    word = source.choice(("equal", "between", "grouped", "sorted", "turned", "either"))
    if word == "either" and words >= 3:
        left = source.randint(1, words - 2)
        return (word, some_term(source, columns, left), some_term(source, columns, words - 1 - left))
    kid = some_term(source, columns, words - 1)
    if word in ("equal", "between"):
        return (word, kid, source.randrange(columns))
    if word == "grouped":
        return (word, kid, tuple(sorted(source.sample(range(columns), source.randint(0, min(3, columns))))))
    if word == "sorted":
        turn = source.sample(range(columns), source.randint(0, columns))
        return (word, kid, tuple((column, source.choice(("up", "down"))) for column in turn))
    return ("turned", kid)


def some_terms(columns, many, seed):
    """TERMS by a random source that begins alike each time, each with at most 12 words within one another and 8 PARTS."""
    source = Random(seed)
    found = []
    while len(found) < many:
        term = some_term(source, columns, source.randint(1, 20))
        if deepest(term) <= 12 and len(worded(term)) <= 8:
            found.append(term)
    return found


def deepest(term):
    """How many words are within one another."""
    return 1 + max([deepest(kid) for kid in term[1:3] if type(kid) is tuple and kid and kid[0] in KIDS and
                    type(kid[0]) is str], default=0)


KIDS = {"rows": 0, "equal": 1, "between": 1, "grouped": 1, "sorted": 1, "turned": 1, "either": 2}
LONG = {"rows": 1, "equal": 3, "between": 3, "grouped": 3, "sorted": 3, "turned": 2, "either": 3}


def is_number(thing, most):
    return type(thing) is int and 0 <= thing < most


def is_lot(thing, columns):
    return (type(thing) is tuple and all(is_number(part, columns) for part in thing)
            and list(thing) == sorted(set(thing)))


def are_steps(thing, columns):
    if type(thing) is not tuple or not all(type(step) is tuple and len(step) == 2 for step in thing):
        return False
    if not all(is_number(step[0], columns) and type(step[1]) is str and step[1] in ("up", "down") for step in thing):
        return False
    return len({step[0] for step in thing}) == len(thing)


def wrong_path(columns, thing):
    """The path of the first wrong one of a TERM, walked as the interface tells it; None of a right TERM."""
    walked = []
    try:
        walk(columns, thing, (), walked)
    except Found as error:
        return error.args[0]
    return () if len(worded(thing)) > 8 else None


class Found(Exception):
    """A path."""


def walk(columns, thing, path, walked):
    walked.append(path)
    if len(walked) > 20 or len(path) >= 12:
        raise Found(())
    if type(thing) is not tuple or not thing or type(thing[0]) is not str or LONG.get(thing[0]) != len(thing):
        raise Found(path)
    word, last = thing[0], thing[-1]
    if word in ("equal", "between") and not is_number(last, columns):
        raise Found(path)
    if word == "grouped" and not (is_lot(last, columns) and len(last) <= 3):
        raise Found(path)
    if word == "sorted" and not are_steps(last, columns):
        raise Found(path)
    for at in range(1, KIDS[word] + 1):
        walk(columns, thing[at], (*path, at), walked)
