"""Columns that tell others: CLOSURES and CUTS; all that is passed is known to be right.

A LOT is an integer here, with a bit for each of its columns.
"""

from fewindexes.keeping import values_at


def bits_of(columns):
    """The LOT of some columns."""
    return sum([1 << column for column in columns])


def columns_in(bits):
    """The ascending tuple of the columns of a LOT."""
    return tuple([column for column in range(8) if bits & (1 << column)])


def closed_bits(tells, bits):
    """The CLOSURE of a LOT."""
    found, ahead = bits, None
    while found != ahead:
        ahead = found
        for known, told in tells:
            if all([found & (1 << column) for column in known]):
                found = found | bits_of(told)
    return found


def cut_of(tells, bits, steps):
    """A pair: the CUT of STEPS behind a LOT; the list of the CLOSURES of the LOT and behind each STEP of the CUT."""
    closed, cut = [closed_bits(tells, bits)], []
    for column, way in steps:
        if not closed[-1] & (1 << column):
            closed.append(closed_bits(tells, closed[-1] | (1 << column)))
            cut.append((column, way))
    return tuple(cut), closed


def told_form(tells, lookup):
    """What TELLS leave of a LOOKUP: the list of its CLOSED SETS, and its CUT."""
    cut, closed = cut_of(tells, bits_of(lookup[0]), lookup[1])
    return closed, cut


def obeys(tells, table):
    """Whether a TABLE obeys TELLS."""
    for known, told in tells:
        seen = {}
        for row in table:
            values = values_at(row, told)
            if seen.setdefault(values_at(row, known), values) != values:
                return False
    return True
