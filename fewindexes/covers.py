"""The fewest INDEXES for LOOKUPS, by numbers; all that is passed is known to be right."""

from fewindexes.lookups import bare_numbers, do_two_fit, goes_ahead


def find_follower(followers, leaders, number, tried):
    """Whether a number can be given one of its followers, others being given other ones of theirs for it.

    leaders tells of each follower that is given away to whom; tried has the
    followers that need not be asked for again. Both are brought up to date.
    """
    for follower in followers[number]:
        if follower not in tried:
            tried[follower] = True
            leader = leaders.get(follower)
            if leader is None or find_follower(followers, leaders, leader, tried):
                leaders[follower] = number
                return True
    return False


def led_chains(numbers, leaders):
    """The list of chains of numbers, each number leading the one behind it."""
    behind = {leader: follower for follower, leader in leaders.items()}
    chains = []
    for number in numbers:
        if number not in leaders:
            chain = [number]
            while chain[-1] in behind:
                chain.append(behind[chain[-1]])
            chains.append(chain)
    return chains


def chains_among(numbers, followers):
    """The list of chains that numbers make, as few as can be; followers are told of these, and perhaps of others.

    What follows a follower of a number follows the number itself, so the chains
    are fewest where the pairs of neighbours are most: each number has one
    follower at most, and is the follower of one at most.
    """
    leaders = {}
    ours = {number: [other for other in followers[number] if other in numbers] for number in numbers}
    for number in numbers:
        find_follower(ours, leaders, number, {})
    return led_chains(numbers, leaders)


def ahead_followers(lookups, bare):
    """For each number of a BARE LOOKUP the list of the numbers of those that it is AHEAD of."""
    return {number: [other for other in bare if goes_ahead(lookups[number], lookups[other])] for number in bare}


def fewest_chains(lookups):
    """A list of lists of the numbers of all BARE LOOKUPS, as few lists as can be, those in each one fitting."""
    bare = bare_numbers(lookups)
    return chains_among(bare, ahead_followers(lookups, bare))


def heaviest_chain(followers, weights):
    """The greatest sum of the weights of a chain, 0 of none; weights tell of each number one from 0 on."""
    behind = {}
    # what follows a number has fewer followers than it
    for _, number in sorted([(len(others), number) for number, others in followers.items()]):
        behind[number] = weights[number] + max([0, *[behind[other] for other in followers[number]]])
    return max([0, *[behind[number] for number in behind]])


def extended_lots(apart, lot, many):
    """All ascending tuples of so many numbers that begin with a lot, each apart from each other one."""
    if len(lot) == many:
        return [lot]
    found = []
    first = lot[-1] + 1 if lot != () else 0
    for number in range(first, len(apart) - many + len(lot) + 1):
        if all([apart[number][other] for other in lot]):
            found.extend(extended_lots(apart, (*lot, number), many))
    return found


def lots_apart(lookups):
    """The ascending list of all greatest lots: as many numbers of LOOKUPS that are APART as can be."""
    apart = [[not do_two_fit(one, other) for other in lookups] for one in lookups]
    return extended_lots(apart, (), len(fewest_chains(lookups)))
