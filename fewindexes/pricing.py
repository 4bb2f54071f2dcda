"""The cheapest chains of numbers, and what shows that none are cheaper; all that is passed is known to be right."""

from fewindexes.covers import find_follower, led_chains


def price_of(prices, columns):
    """The sum of the PRICES of columns."""
    return sum([prices[column] for column in columns])


def turns_from(numbers, followers, leaders):
    """What is come to from the numbers that lead no other one: from a number to its followers, from these to who leads.

    A pair of dicts: the numbers, and the followers, that are come to so.
    """
    leading = list(leaders.values())
    waiting = [number for number in numbers if number not in leading]
    seen, reached = {number: True for number in waiting}, {}
    while waiting:
        number = waiting.pop()
        for follower in followers[number]:
            if follower not in reached:
                reached[follower] = True
                seen[leaders[follower]] = True
                waiting.append(leaders[follower])
    return seen, reached


def add_cover(numbers, followers, leaders, amount, outs, ins):
    """Adds an amount to OUTS and INS such that for each of the numbers and each of its followers one of both has it.

    As many have it as pairs are led, so that it is no more than what these spare.
    """
    seen, reached = turns_from(numbers, followers, leaders)
    for number in numbers:
        if number not in seen:
            outs[number] += amount
    for follower in reached:
        ins[follower] += amount


def cheapest_chains(prices, followers):
    """The triple of chains, OUTS and INS by dicts of the price of each number and of the list of its followers.

    A chain costs the price of its last one, so each number that leads another
    one spares its own. The dearest are asked first: once a number leads, it
    leads on, so this spares most, and leaves the fewest chains. For each price
    that is there a cover of the numbers that are as dear has what lies between
    this and the next lower one; all of them together are OUTS and INS.
    """
    outs, ins = {number: 0 for number in prices}, {number: 0 for number in prices}
    levels = sorted(set(list(prices.values())))
    asked, leaders = [], {}
    while levels:
        level = levels.pop()
        for number in prices:
            if prices[number] == level:
                asked.append(number)
                find_follower(followers, leaders, number, {})
        lower = levels[-1] if levels else 0
        add_cover(asked, followers, leaders, level - lower, outs, ins)
    return led_chains(list(prices), leaders), outs, ins
