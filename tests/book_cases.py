"""A BOOK led by hand: plain lists of rows, of INDEXES and of KEYS, for what Books are held beside."""

from random import Random

from cases import all_indexes, all_lots, is_plain, known_indexes

DEEDS = ("add", "remove", "make", "drop", "claim", "waive", "undo")


def is_row(columns, thing):
    return type(thing) is tuple and len(thing) == columns and all(type(value) is int for value in thing)


def is_lot(columns, thing):
    return type(thing) is tuple and is_plain(thing) and repr(thing) in map(repr, all_lots(columns))


def is_index(columns, thing):
    return type(thing) is tuple and is_plain(thing) and repr(thing) in known_indexes(columns)


class PlainBook:
    """Point 32 by lists; each deed tells the error that is due, as error_of tells it, or None, and is done then."""

    def __init__(self, columns):
        self.columns = columns
        self.rows, self.indexes, self.keys = [], [], []
        self.past = []

    def state(self):
        return (list(self.rows), list(self.indexes), list(self.keys))

    def due(self, deed, *given):
        before = self.state()
        told = getattr(self, "due_" + deed)(*given)
        if told is None and deed != "undo" and self.state() != before:
            self.past.append(before)
        return told

    def due_add(self, row):
        if not is_row(self.columns, row):
            return ("BadRow", {"given": row})
        if len(self.rows) >= 30:
            return ("TooMany", {"most": 30})
        for key in sorted(self.keys):
            for other in self.rows:
                if [row[at] for at in key] == [other[at] for at in key]:
                    return ("Broken", {"given": key})
        self.rows.append(row)
        return None

    def due_remove(self, row):
        if not is_row(self.columns, row):
            return ("BadRow", {"given": row})
        if row not in self.rows:
            return ("Missing", {"given": row})
        self.rows.remove(row)
        return None

    def due_make(self, index):
        if not is_index(self.columns, index):
            return ("BadIndex", {"given": index})
        if len(self.indexes) >= 12:
            return ("TooMany", {"most": 12})
        self.indexes.append(index)
        return None

    def due_drop(self, which):
        if type(which) is not int or which not in range(len(self.indexes)):
            return ("BadNumber", {"given": which})
        del self.indexes[which]
        return None

    def due_claim(self, lot):
        if not is_lot(self.columns, lot):
            return ("BadKey", {"given": lot})
        if lot in self.keys:
            return None
        if len(self.keys) >= 8:
            return ("TooMany", {"most": 8})
        seen = [[row[at] for at in lot] for row in self.rows]
        if any(values in seen[:at] for at, values in enumerate(seen)):
            return ("Broken", {"given": lot})
        self.keys.append(lot)
        return None

    def due_waive(self, lot):
        if not is_lot(self.columns, lot):
            return ("BadKey", {"given": lot})
        if lot not in self.keys:
            return ("Missing", {"given": lot})
        self.keys.remove(lot)
        return None

    def due_undo(self, many=1):
        if type(many) is not int or many < 1:
            return ("BadNumber", {"given": many})
        if many > len(self.past):
            return ("NothingLeft", {"many": many})
        for _ in range(many):
            self.rows, self.indexes, self.keys = map(list, self.past.pop())
        return None

    def told(self):
        """What a Book has to tell: its TABLE, its INDEXES, its KEYS, how many deeds."""
        return (tuple(sorted(self.rows)), tuple(self.indexes), tuple(sorted(self.keys)), len(self.past))


def told_by(book):
    return (book.table, book.indexes, book.held_keys, len(book))


def some_deeds(columns, many, seed, values=(-1, 0, 1), weights=(6, 2, 3, 1, 2, 1, 1)):
    """So many pairs of a deed and what it is passed, nearly all of the right kind, by a random source."""
    source = Random(seed)
    found = []
    for _ in range(many):
        deed = source.choices(DEEDS, weights)[0]
        if deed in ("add", "remove"):
            thing = tuple(source.choice(values) for _ in range(columns + (source.random() < 0.02)))
        elif deed == "make":
            thing = source.choice(all_indexes(columns + (source.random() < 0.05)))
        elif deed == "drop":
            thing = source.randint(-1, 12)
        elif deed in ("claim", "waive"):
            thing = source.choice(all_lots(columns + (source.random() < 0.05)))
        else:
            thing = source.choice((0, 1, 1, 1, 2, 3, 40))
        found.append((deed, thing))
    return found
