"""BOOKS: a TABLE, INDEXES and KEYS, led by deeds that can be taken back."""

from fewindexes.arguments import need_columns
from fewindexes.errors import BadKey, BadNumber, BadRow, Broken, Missing, NothingLeft, TooMany
from fewindexes.indexes import need_index
from fewindexes.keeping import values_at
from fewindexes.kinds import is_integer, is_integers, is_lot, is_number
from fewindexes.serving import serves
from fewindexes.tables import rows_for
from fewindexes.terms import doers


def need_row(columns, thing):
    """Refuses what is no row of so many columns."""
    if not is_integers(columns, thing):
        raise BadRow(thing)


def need_key(columns, thing):
    """Refuses what cannot be a KEY of so many columns."""
    if not is_lot(columns, thing):
        raise BadKey(thing)


def is_broken(table, key):
    """Whether two rows are alike at all columns of a KEY."""
    return len(set([values_at(row, key) for row in table])) < len(table)


def need_whole(table, keys):
    """Refuses the first one of KEYS that two rows are alike at."""
    for key in keys:
        if is_broken(table, key):
            raise Broken(key)


def without_place(things, place):
    """The tuple of things without that at a place."""
    return things[:place] + things[place + 1:]


class Trial:
    """What gives a Book to a with statement, and leaves it as it was."""

    def __init__(self, book):
        self._book = book
        self._state = None
        self._past = None

    def __enter__(self):
        """The Book itself."""
        self._state = self._book._state
        self._past = list(self._book._past)
        return self._book

    def __exit__(self, kind, value, trace):
        # what the block took back is there again, too, so the whole past is put back
        book = self._book
        book._state = self._state
        book._past = self._past


class Book:
    """A BOOK of so many columns."""

    def __init__(self, columns):
        self._columns = need_columns(columns)
        # the TABLE, the INDEXES and the KEYS; none of them is ever changed, so that what was there can be kept
        self._state = ((), (), ())
        self._past = []

    @property
    def table(self):
        """The TABLE."""
        return self._state[0]

    @property
    def indexes(self):
        """The INDEXES."""
        return self._state[1]

    @property
    def held_keys(self):
        """The KEYS."""
        return self._state[2]

    def _go_on(self, table, indexes, keys):
        """Does a deed that comes to these."""
        self._past.append(self._state)
        self._state = (table, indexes, keys)

    def add(self, row):
        """Puts a row to the TABLE."""
        need_row(self._columns, row)
        table, indexes, keys = self._state
        if len(table) == 30:
            raise TooMany(30)
        more = tuple(sorted([*table, row]))
        need_whole(more, keys)
        self._go_on(more, indexes, keys)

    def remove(self, row):
        """Takes a row, of alike ones one, away from the TABLE."""
        need_row(self._columns, row)
        table, indexes, keys = self._state
        if row not in table:
            raise Missing(row)
        self._go_on(without_place(table, table.index(row)), indexes, keys)

    def make(self, index):
        """Makes an INDEX behind the others."""
        need_index(self._columns, index)
        table, indexes, keys = self._state
        if len(indexes) == 12:
            raise TooMany(12)
        self._go_on(table, (*indexes, index), keys)

    def drop(self, which):
        """Takes away the INDEX with a number."""
        table, indexes, keys = self._state
        if not is_number(len(indexes), which):
            raise BadNumber(which)
        self._go_on(table, without_place(indexes, which), keys)

    def claim(self, lot):
        """Claims a KEY; one that is there is claimed already."""
        need_key(self._columns, lot)
        table, indexes, keys = self._state
        if lot not in keys:
            if len(keys) == 8:
                raise TooMany(8)
            need_whole(table, (lot,))
            self._go_on(table, indexes, tuple(sorted([*keys, lot])))

    def waive(self, lot):
        """Waives a KEY."""
        need_key(self._columns, lot)
        table, indexes, keys = self._state
        if lot not in keys:
            raise Missing(lot)
        self._go_on(table, indexes, without_place(keys, keys.index(lot)))

    def read(self, lookup, values):
        """The pair of the number of the first INDEX that SERVES the LOOKUP, or None, and of the rows in its turn."""
        rows = rows_for(self._columns, self.table, lookup, values)
        numbers = [number for number, index in enumerate(self.indexes) if serves(index, lookup)]
        return (numbers[0] if numbers else None, rows)

    def covers(self, term):
        """The tuple with, for each PART of a TERM, the number of the first INDEX that does it, or None."""
        return doers(self._columns, term, self.indexes)

    def undo(self, many=1):
        """Takes so many deeds back, the last one first."""
        if not is_integer(many) or many < 1:
            raise BadNumber(many)
        if many > len(self._past):
            raise NothingLeft(many)
        left = len(self._past) - many
        self._state = self._past[left]
        self._past = self._past[:left]

    def copy(self):
        """A Book that stands likewise, with all that can be taken back, and goes on by itself."""
        twin = Book(self._columns)
        twin._state = self._state
        twin._past = list(self._past)
        return twin

    def trial(self):
        """What gives the Book itself to one with statement, behind whose block it is as it was when this began."""
        return Trial(self)

    def __len__(self):
        """How many deeds were done and not taken back."""
        return len(self._past)

    def __eq__(self, other):
        """Whether both are Books of as many COLUMNS with equal TABLES, INDEXES and KEYS."""
        return isinstance(other, Book) and self._columns == other._columns and self._state == other._state


def under(manager, deed):
    """What a deed returns of what the manager gives, called in a with statement over the manager."""
    with manager as one:
        return deed(one)
