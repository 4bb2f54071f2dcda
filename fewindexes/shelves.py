"""SHELVES: TERMS under NAMES."""

from fewindexes.arguments import need_columns
from fewindexes.errors import BadName, Missing, TooMany
from fewindexes.indexes import need_index
from fewindexes.kinds import is_name
from fewindexes.parting import part_lookups, way_done
from fewindexes.terms import need_term
from fewindexes.wording import bound_parts, parts_in


class Shelf:
    """A SHELF of so many columns."""

    def __init__(self, columns):
        self._columns = need_columns(columns)
        self._terms = {}

    def put(self, name, term):
        """Puts a TERM under a NAME, in the place of an elder one."""
        if not is_name(name):
            raise BadName(name)
        need_term(self._columns, term)
        if name not in self._terms and len(self._terms) == 20:
            raise TooMany(20)
        self._terms[name] = term

    def take(self, name):
        """The TERM under a NAME; both are taken away."""
        term = self.seek(name)
        self._terms.pop(name)
        return term

    def seek(self, name):
        """The TERM under a NAME."""
        if name not in self:
            raise Missing(name)
        return self._terms[name]

    def names(self):
        """The ascending tuple of the NAMES."""
        return tuple(sorted(self._terms))

    def alike(self):
        """The ascending tuple of all pairs of NAMES, the first one less, of TERMS with the same PARTS in one turn."""
        parts = {name: parts_in(self._terms[name]) for name in self.names()}
        return tuple([(one, other) for one in parts for other in parts if one < other and parts[one] == parts[other]])

    def done_by(self, index):
        """The ascending tuple of the NAMES of TERMS all of whose PARTS that are not free the INDEX does."""
        need_index(self._columns, index)
        found = []
        for name in self.names():
            if all([way_done(index, part) is not None for part in bound_parts(self._terms[name])]):
                found.append(name)
        return tuple(found)

    def choices(self):
        """The CHOICES of all TERMS, by ascending NAMES, joined to one tuple."""
        return tuple([part_lookups(part) for name in self.names() for part in bound_parts(self._terms[name])])

    def __len__(self):
        """How many NAMES there are."""
        return len(self._terms)

    def __contains__(self, name):
        """Whether anything is one of the NAMES."""
        return is_name(name) and name in self._terms

    def __eq__(self, other):
        """Whether both are SHELVES of as many COLUMNS with equal TERMS under the same NAMES."""
        return isinstance(other, Shelf) and self._columns == other._columns and self._terms == other._terms
