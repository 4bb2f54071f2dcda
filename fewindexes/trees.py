"""TREES of PAPERS, of which nothing is known."""

from fewindexes.kinds import is_number, is_tuple


def begins(word, many, thing):
    """Whether it is a tuple of so many things, the word the first of them."""
    return is_tuple(many, thing) and type(thing[0]) is str and thing[0] == word


def need_leaves(needs, beside, tree):
    """The list of what stands behind all "need" TREES, None where one of these is none.

    needs are tuples of what can be picked for each NEED, beside the things that
    can be picked for all of them behind that. Each leaf is a pair of a dict of
    what was picked on the way, by the numbers of NEEDS, and the thing itself.
    """
    leaves, waiting = [], [({}, tree)]
    while waiting:
        picked, below = waiting.pop()
        if not begins("need", 3, below):
            leaves.append((picked, below))
            continue
        _, number, trees = below
        if not is_number(len(needs), number) or number in picked:
            return None
        things = (*needs[number], *beside)
        if not is_tuple(len(things), trees):
            return None
        for thing, kid in zip(things, trees):
            told = {at: picked[at] for at in picked}
            told[number] = thing
            waiting.append((told, kid))
    return leaves
