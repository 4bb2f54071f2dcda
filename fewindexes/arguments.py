"""What is refused of arguments that many functions have."""

from fewindexes.errors import BadIndex, BadIndexes, BadNumber, BadNumbers, BadPrices, BadStock, BadWorths
from fewindexes.kinds import are_worths, first_wrong, is_columns, is_index, is_integer, is_numbers


def need_columns(thing):
    """The thing itself, where it is COLUMNS."""
    if not is_columns(thing):
        raise BadNumber(thing)
    return thing


def need_numbers(demand, thing):
    """The thing itself, where it is NUMBERS of LOOKUPS of a DEMAND that is known to be one."""
    if not is_numbers(len(demand[1]), thing) or thing == ():
        raise BadNumbers(thing)
    return thing


def need_prices(columns, thing):
    """The thing itself, where it is PRICES of columns that are known to be right."""
    if not are_worths(columns, thing):
        raise BadPrices(thing)
    return thing


def need_worths(many, thing):
    """The thing itself, where it is a tuple of so many WORTHS."""
    if not are_worths(many, thing):
        raise BadWorths(thing)
    return thing


def need_few(most, thing):
    """The thing itself, where it is K: an integer from 1 to the most."""
    if not is_integer(thing) or not 1 <= thing <= most:
        raise BadNumber(thing)
    return thing


def need_indexes(columns, thing):
    """The thing itself, where it is a tuple of at most 12 INDEXES; the first one that is none is refused."""
    if type(thing) is not tuple or len(thing) > 12:
        raise BadIndex(thing)
    for index in thing:
        if not is_index(columns, index):
            raise BadIndex(index)
    return thing


def need_told_indexes(columns, thing):
    """The thing itself, where it is a tuple of at most 12 INDEXES; the number of the first that is none is refused."""
    if type(thing) is not tuple or len(thing) > 12:
        raise BadIndexes(None)
    for number, index in enumerate(thing):
        if not is_index(columns, index):
            raise BadIndexes(number)
    return thing


def need_stock(columns, thing):
    """The thing itself, where it is a STOCK of columns that are known to be right."""
    if type(thing) is not tuple or len(thing) > 8:
        raise BadStock(None)
    number = first_wrong(columns, thing, is_index)
    if number is not None:
        raise BadStock(number)
    return thing
