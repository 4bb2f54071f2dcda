"""What is refused of arguments that many functions have."""

from fewindexes.errors import BadNumber
from fewindexes.kinds import is_columns


def need_columns(thing):
    """The thing itself, where it is COLUMNS."""
    if not is_columns(thing):
        raise BadNumber(thing)
    return thing
