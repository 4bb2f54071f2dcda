"""TABLES that keep LOOKUPS, or do not; all that is passed is known to be right."""

from fewindexes.steps import columns_of, rank_of


def values_at(row, columns):
    """The tuple of the values of a row at some columns."""
    return tuple([row[column] for column in columns])


def can_part(ranks, others):
    """Whether in some LISTING a row with one of the other ranks stands between rows with these.

    Rows of equal ranks may stand in any turn, so two rows have between them, in
    some LISTING, whatever is not less than the one by rank, nor greater than
    the other one.
    """
    first, last = min(ranks), max(ranks)
    return len(ranks) > 1 and any([first <= rank <= last for rank in others])


def stand_together(groups):
    """Whether in each LISTING the rows of each group stand side by side.

    The groups are of rows alike at EQUAL, each row a pair of its rank by the
    INDEX and its rank by SORT.
    """
    for at, group in enumerate(groups):
        others = [row[0] for place, other in enumerate(groups) if place != at for row in other]
        if can_part([row[0] for row in group], others):
            return False
    return True


def none_is_late(group, way):
    """Whether in each LISTING none of the rows of a group stands ahead of one that is less by SORT."""
    for rank, sort_rank in group:
        for other_rank, other_sort in group:
            if other_sort < sort_rank:
                if way == "forward" and rank <= other_rank:
                    return False
                if way == "backward" and other_rank <= rank:
                    return False
    return True


def keeps(table, index, lookup, way):
    """Whether the TABLE KEEPS the LOOKUP by the INDEX this way."""
    equal, sort = lookup
    groups = {}
    for row in table:
        groups.setdefault(values_at(row, equal), []).append((rank_of(row, index), rank_of(row, sort)))
    if not stand_together(list(groups.values())):
        return False
    return all([none_is_late(group, way) for group in groups.values()])


def keeps_neither(table, index, lookup):
    """Whether the TABLE keeps the LOOKUP by the INDEX neither way."""
    return not keeps(table, index, lookup, "forward") and not keeps(table, index, lookup, "backward")


def row_with(columns, values):
    """The row with the values that a dict tells of columns, and 0 at the others."""
    return tuple([values.get(column, 0) for column in range(columns)])


def first_gap(index, lookup):
    """Where an INDEX leaves the columns of a LOOKUP, or None.

    A pair of the column of the INDEX that stands there, None behind its last
    one, and a column of the LOOKUP that ought to stand there instead.
    """
    equal, sort = lookup
    ahead = columns_of(index)
    for place in range(len(equal) + len(sort)):
        if place < len(equal):
            wanted = [column for column in equal if column not in ahead[:place]]
        else:
            wanted = [sort[place - len(equal)][0]]
        if place == len(ahead):
            return (None, wanted[0])
        if ahead[place] not in wanted:
            return (ahead[place], wanted[0])
    return None


def unkept_rows(columns, index, lookup):
    """Three rows of a TABLE that keeps the LOOKUP neither way, by an INDEX that does not serve it."""
    gap = first_gap(index, lookup)
    if gap is not None:
        # The INDEX puts the second row between the others, or may; at the wanted
        # column it is unlike both, and greater, while they are alike there.
        stands, wanted = gap
        return [row_with(columns, {stands: 0, wanted: 0}), row_with(columns, {stands: 1, wanted: 1}),
                row_with(columns, {stands: 2, wanted: 0})]
    # All columns are right, so some STEP is as it is there, and another one turned.
    kept = [column for column, way in lookup[1] if (column, way) in index]
    turned = [column for column, way in lookup[1] if (column, way) not in index]
    return [row_with(columns, {}), row_with(columns, {kept[0]: 1}), row_with(columns, {turned[0]: 1})]


def unkept_table(columns, index, lookup):
    """A TABLE of three rows that keeps the LOOKUP neither way, by an INDEX that does not serve it."""
    return tuple(sorted(unkept_rows(columns, index, lookup)))
