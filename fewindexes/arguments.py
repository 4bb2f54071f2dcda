"""What is refused of arguments that many functions have."""

from fewindexes.errors import BadNumber, BadNumbers
from fewindexes.kinds import is_columns, is_numbers


def need_columns(thing):
    """The thing itself, where it is COLUMNS."""
    if not is_columns(thing):
        raise BadNumber(thing)
    return thing


def need_numbers(demand, thing):
    """The thing itself, where it is NUMBERS of LOOKUPS of a DEMAND that is known to be one."""
    if not is_numbers(len(demand[1]), thing) or thing == ():
        raise BadNumbers(thing)
    return thing
