"""STEPS: their columns, their WAYS, and how they order rows."""


def turned_way(way):
    """The other WAY."""
    return "down" if way == "up" else "up"


def turned_steps(steps):
    """The STEPS, all turned."""
    return tuple([(column, turned_way(way)) for column, way in steps])


def columns_of(steps):
    """The list of the columns of STEPS, in their turn."""
    return [step[0] for step in steps]


def rank_of(row, steps):
    """A tuple that is less than that of another row exactly if the row is less by the STEPS."""
    return tuple([row[column] if way == "up" else -row[column] for column, way in steps])


def ranked_rows(rows, steps):
    """The tuple of the rows, sorted by the STEPS, those alike by them as they stood."""
    places = sorted([(rank_of(row, steps), place) for place, row in enumerate(rows)])
    return tuple([rows[place[1]] for place in places])
