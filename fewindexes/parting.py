"""PARTS: their LOOKUPS, what does them, what TABLES show; all that is passed is known to be right."""

from fewindexes.keeping import can_part, none_is_late, unkept_table, values_at
from fewindexes.serving import serves, way_in
from fewindexes.steps import columns_of, rank_of

FREE = ((), None, (), ())


def part_sorts(part):
    """The list of all tuples of STEPS that begin with SORT, and have all columns of TOGETHER, or BETWEEN alone."""
    _, between, together, sort = part
    if between is not None and together == () and sort == ():
        return [((between, "up"),)]
    sorts = [sort]
    sorted_by = columns_of(sort)
    for _ in [column for column in together if column not in sorted_by]:
        sorts = [(*steps, (column, way)) for steps in sorts for column in together
                 if column not in columns_of(steps) for way in ("up", "down")]
    return sorts


def is_sort_for(part, steps):
    """Whether such STEPS are not left out of the LOOKUPS of a PART."""
    _, between, together, sort = part
    if between is not None and steps[0][0] != between:
        return False
    if tuple(sorted(columns_of(steps[:len(together)]))) != together:
        return False
    # by a first STEP that is turned, with all the others, the same INDEXES would serve
    return sort != () or steps == () or steps[0][1] == "up"


def part_lookups(part):
    """The ascending tuple of the LOOKUPS of a PART."""
    if part == FREE:
        return ()
    return tuple(sorted([(part[0], steps) for steps in part_sorts(part) if is_sort_for(part, steps)]))


def wanted_lookups(part):
    """The list of LOOKUPS all of which an INDEX has to serve that does the PART."""
    equal, between, together, sort = part
    found = [] if between is None else [(tuple(sorted([*equal, between])), ())]
    found = [*found, (tuple(sorted([*equal, *together])), ()), (equal, sort)]
    return [lookup for lookup in found if lookup != ((), ())]


def unserved_lookup(index, part):
    """The first LOOKUP that an INDEX would have to serve to do the PART, and does not serve, or None."""
    for lookup in wanted_lookups(part):
        if not serves(index, lookup):
            return lookup
    return None


def way_done(index, part):
    """The first way that the INDEX does the PART, or None."""
    if unserved_lookup(index, part) is not None:
        return None
    return way_in(index, (part[0], part[3]))


def parting_table(columns, index, part):
    """A TABLE of three rows that shows that the INDEX does not do the PART, or None where it does."""
    lookup = unserved_lookup(index, part)
    return None if lookup is None else unkept_table(columns, index, lookup)


def alike_rows(rows, columns):
    """The list of the lists of the rows that are alike at columns."""
    groups = {}
    for row in rows:
        groups.setdefault(values_at(row, columns), []).append(row)
    return list(groups.values())


def bound_rows(rows, between):
    """The list of the lists of the rows that a pair of bounds leaves; all of them where BETWEEN is None."""
    if between is None:
        return [rows]
    values = sorted(set([row[between] for row in rows]))
    return [[row for row in rows if first <= row[between] <= last]
            for first in values for last in values if first <= last]


def stands_together(ranks, rows):
    """Whether some rows stand side by side in each LISTING; ranks tell that of each row of the TABLE by the INDEX."""
    among = {row: True for row in rows}
    return not can_part([ranks[row] for row in rows], [rank for row, rank in ranks.items() if row not in among])


def all_stand_together(table, index, part):
    """Whether the rows that the PART tells of stand side by side in each LISTING, for all values and bounds."""
    equal, between, together, _ = part
    ranks = {row: rank_of(row, index) for row in table}
    for group in alike_rows(table, equal):
        for rows in bound_rows(group, between):
            if not all([stands_together(ranks, alike) for alike in [rows, *alike_rows(rows, together)]]):
                return False
    return True


def shows_done(table, index, part):
    """Whether what does a PART holds of this TABLE, forward of all its LISTINGS or backward of all."""
    if not all_stand_together(table, index, part):
        return False
    groups = []
    for rows in alike_rows(table, part[0]):
        groups.append([(rank_of(row, index), rank_of(row, part[3])) for row in rows])
    return any([all([none_is_late(group, way) for group in groups]) for way in ("forward", "backward")])
