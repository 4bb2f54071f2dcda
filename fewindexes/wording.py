"""The words of TERMS, and the PARTS that they make."""

from fewindexes.kinds import is_lot, is_number, is_steps, is_tuple
from fewindexes.parting import FREE
from fewindexes.steps import turned_steps

# Of each word how many TERMS stand behind it, and how many other things behind these.
WORDS = {"rows": (0, 0), "equal": (1, 1), "between": (1, 1), "grouped": (1, 1), "sorted": (1, 1), "turned": (1, 0),
         "either": (2, 0)}


def has_form(thing):
    """Whether anything is a tuple of a word and as many things as it wants."""
    if type(thing) is not tuple or thing == () or type(thing[0]) is not str or thing[0] not in WORDS:
        return False
    kids, others = WORDS[thing[0]]
    return is_tuple(1 + kids + others, thing)


def kids_in(term):
    """The tuple of the TERMS that stand in a TERM, or in what has its form."""
    kids, _ = WORDS[term[0]]
    return term[1:1 + kids]


def has_columns(columns, term):
    """Whether the column, the LOT or the STEPS of what has the form of a TERM are right, where it has any."""
    if term[0] in ("equal", "between"):
        return is_number(columns, term[2])
    if term[0] == "grouped":
        return is_lot(columns, term[2]) and len(term[2]) <= 3
    return term[0] != "sorted" or is_steps(columns, term[2])


def without(columns, equal):
    """The tuple of the columns that are not in EQUAL."""
    return tuple([column for column in columns if column not in equal])


def steps_without(steps, equal):
    """The tuple of the STEPS whose columns are not in EQUAL."""
    return tuple([step for step in steps if step[0] not in equal])


def put_equal(part, column):
    """The PART with one column more in EQUAL."""
    equal, between, together, sort = part
    equal = tuple(sorted([*without(equal, (column,)), column]))
    return (equal, None if between == column else between, without(together, equal), steps_without(sort, equal))


def changed_part(term, part):
    """The PART that a TERM, with one TERM in it, makes of a PART of this."""
    equal, between, together, sort = part
    word = term[0]
    if word == "equal":
        return put_equal(part, term[2])
    if word == "between":
        return (equal, between if term[2] in equal else term[2], together, sort)
    if word == "grouped":
        return (equal, between, without(term[2], equal), sort)
    if word == "sorted":
        return (equal, between, together, steps_without(term[2], equal))
    return (equal, between, together, turned_steps(sort))


def parts_in(term):
    """The tuple of the PARTS of a TERM."""
    if term[0] == "rows":
        return (FREE,)
    if term[0] == "either":
        return parts_in(term[1]) + parts_in(term[2])
    return tuple([changed_part(term, part) for part in parts_in(term[1])])


def bound_parts(term):
    """The list of the PARTS of a TERM that are not free."""
    return [part for part in parts_in(term) if part != FREE]
