"""Whether anything at all is COLUMNS, a LOT, a LOOKUP and so on.

Kinds are asked for exactly: True is an integer to isinstance, and a class of
somebody else's under tuple or str could compare as it likes.
"""

from fewindexes.steps import columns_of


def is_integer(thing):
    """Whether it is an integer, and not True or False."""
    return type(thing) is int


def is_number(many, thing):
    """Whether it is the number of one of so many items."""
    return is_integer(thing) and 0 <= thing < many


def is_columns(thing):
    """Whether it is COLUMNS."""
    return is_integer(thing) and 1 <= thing <= 8


def is_ascending(things):
    """Whether each of some things that can be compared is greater than the one ahead."""
    return all([things[at - 1] < things[at] for at in range(1, len(things))])


def is_numbers(many, thing):
    """Whether it is an ascending tuple of numbers of so many items, perhaps ()."""
    if type(thing) is not tuple or not all([is_number(many, number) for number in thing]):
        return False
    return is_ascending(thing)


def is_lot(columns, thing):
    """Whether it is a LOT of so many columns."""
    return is_numbers(columns, thing)


def is_way(thing):
    """Whether it is the WAY of a STEP."""
    return type(thing) is str and thing in ("up", "down")


def is_step(columns, thing):
    """Whether it is a STEP of so many columns."""
    if type(thing) is not tuple or len(thing) != 2:
        return False
    return is_number(columns, thing[0]) and is_way(thing[1])


def is_steps(columns, thing):
    """Whether it is a tuple of STEPS, no column twice, perhaps ()."""
    if type(thing) is not tuple or not all([is_step(columns, step) for step in thing]):
        return False
    return len(set(columns_of(thing))) == len(thing)


def is_index(columns, thing):
    """Whether it is an INDEX of so many columns."""
    return is_steps(columns, thing) and thing != ()


def is_lookup(columns, thing):
    """Whether it is a LOOKUP of so many columns."""
    if type(thing) is not tuple or len(thing) != 2:
        return False
    equal, sort = thing
    if not is_lot(columns, equal) or not is_steps(columns, sort):
        return False
    if equal == () and sort == ():
        return False
    return not any([column in equal for column in columns_of(sort)])


def is_integers(many, thing):
    """Whether it is a tuple of so many integers."""
    return type(thing) is tuple and len(thing) == many and all([is_integer(part) for part in thing])


def is_table(columns, thing):
    """Whether it is a TABLE of so many columns."""
    if type(thing) is not tuple or len(thing) > 30:
        return False
    if not all([is_integers(columns, row) for row in thing]):
        return False
    return all([thing[at - 1] <= thing[at] for at in range(1, len(thing))])


def is_indexes(columns, thing):
    """Whether it is a tuple of at most 12 INDEXES, perhaps alike."""
    if type(thing) is not tuple or len(thing) > 12:
        return False
    return all([is_index(columns, index) for index in thing])
