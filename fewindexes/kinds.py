"""Whether anything at all is COLUMNS, a LOT, a LOOKUP and so on.

Kinds are asked for exactly: True is an integer to isinstance, and a class of
somebody else's under tuple or str could compare as it likes.
"""

from fewindexes.steps import columns_of


def is_integer(thing):
    """Whether it is an integer, and not True or False."""
    return type(thing) is int


def is_number(many, thing):
    """Whether it is the number of one of so many items."""
    return is_integer(thing) and 0 <= thing < many


def is_columns(thing):
    """Whether it is COLUMNS."""
    return is_integer(thing) and 1 <= thing <= 8


def is_ascending(things):
    """Whether each of some things that can be compared is greater than the one ahead."""
    return all([things[at - 1] < things[at] for at in range(1, len(things))])


def is_tuple(many, thing):
    """Whether it is a tuple of so many things."""
    return type(thing) is tuple and len(thing) == many


def first_wrong(columns, things, is_right):
    """The number of the first of some things that is not right of so many columns, or not greater than the one ahead.

    None where all are right, and ascending.
    """
    for number, thing in enumerate(things):
        if not is_right(columns, thing):
            return number
        if number > 0 and not things[number - 1] < thing:
            return number
    return None


def is_numbers(many, thing):
    """Whether it is an ascending tuple of numbers of so many items, perhaps ()."""
    if type(thing) is not tuple or not all([is_number(many, number) for number in thing]):
        return False
    return is_ascending(thing)


def is_lot(columns, thing):
    """Whether it is a LOT of so many columns."""
    return is_numbers(columns, thing)


def is_way(thing):
    """Whether it is the WAY of a STEP."""
    return type(thing) is str and thing in ("up", "down")


def is_step(columns, thing):
    """Whether it is a STEP of so many columns."""
    return is_tuple(2, thing) and is_number(columns, thing[0]) and is_way(thing[1])


def is_steps(columns, thing):
    """Whether it is a tuple of STEPS, no column twice, perhaps ()."""
    if type(thing) is not tuple or not all([is_step(columns, step) for step in thing]):
        return False
    return len(set(columns_of(thing))) == len(thing)


def is_index(columns, thing):
    """Whether it is an INDEX of so many columns."""
    return is_steps(columns, thing) and thing != ()


def is_lookup(columns, thing):
    """Whether it is a LOOKUP of so many columns."""
    if not is_tuple(2, thing):
        return False
    equal, sort = thing
    if not is_lot(columns, equal) or not is_steps(columns, sort):
        return False
    if equal == () and sort == ():
        return False
    return not any([column in equal for column in columns_of(sort)])


def is_integers(many, thing):
    """Whether it is a tuple of so many integers."""
    return is_tuple(many, thing) and all([is_integer(part) for part in thing])


def are_amounts(many, thing):
    """Whether it is a tuple of so many integers from 0 on."""
    return is_integers(many, thing) and all([amount >= 0 for amount in thing])


def are_worths(many, thing):
    """Whether it is a tuple of so many integers from 0 to 1,000."""
    return is_integers(many, thing) and all([0 <= worth <= 1000 for worth in thing])


def is_table(columns, thing):
    """Whether it is a TABLE of so many columns."""
    if type(thing) is not tuple or len(thing) > 30:
        return False
    if not all([is_integers(columns, row) for row in thing]):
        return False
    return all([thing[at - 1] <= thing[at] for at in range(1, len(thing))])


def are_indexes(columns, thing):
    """Whether it is a tuple of any number of INDEXES, perhaps alike."""
    return type(thing) is tuple and all([is_index(columns, index) for index in thing])


def is_indexes(columns, thing):
    """Whether it is a tuple of at most 12 INDEXES, perhaps alike."""
    return type(thing) is tuple and len(thing) <= 12 and are_indexes(columns, thing)


def is_tell(columns, thing):
    """Whether it is a pair (X, Y) of LOTS, Y not ()."""
    return is_tuple(2, thing) and is_lot(columns, thing[0]) and is_lot(columns, thing[1]) and thing[1] != ()


def is_need(columns, thing):
    """Whether it is a NEED of so many columns."""
    if type(thing) is not tuple or not 1 <= len(thing) <= 24:
        return False
    return first_wrong(columns, thing, is_lookup) is None


def is_part(columns, thing):
    """Whether it is a PART of so many columns."""
    if not is_tuple(4, thing):
        return False
    equal, between, together, sort = thing
    if not is_lot(columns, equal) or not is_lot(columns, together) or not is_steps(columns, sort):
        return False
    if between is not None and not is_number(columns, between):
        return False
    return len(together) <= 3 and not any([column in (between, *together, *columns_of(sort)) for column in equal])


def is_name(thing):
    """Whether it is a NAME."""
    return type(thing) is str and 1 <= len(thing) <= 8 and all(["a" <= sign <= "z" for sign in thing])
