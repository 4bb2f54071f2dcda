"""The best few chains of numbers, by flows, and what shows that none are better; all that is passed is right.

A net is a list of arcs [TAIL, HEAD, ROOM, GAIN] between nodes. Behind each arc
stands the one back, whose room is what flows. Node 0 is where all flow comes
from, node 1 where it goes to.
"""

SOURCE = 0
SINK = 1


def put_arc(net, tail, head, room, gain):
    """Puts an arc and the one back to a net."""
    net.append([tail, head, room, gain])
    net.append([head, tail, 0, -gain])


def chain_net(worths, followers, many, spare):
    """The net in which so many chains can flow, or go past all places for what each spares.

    The number at a place has two nodes. From the one to the other an arc, all
    of which come first, can be gone once for its worth. All others have more
    room than can ever flow, so that what bounds them is told by gains alone.
    """
    net, room = [], many + 1
    for place, worth in enumerate(worths):
        put_arc(net, 2 * place + 2, 2 * place + 3, 1, worth)
    for place in range(len(worths)):
        put_arc(net, SOURCE, 2 * place + 2, room, 0)
        put_arc(net, 2 * place + 3, SINK, room, 0)
        for other in followers[place]:
            put_arc(net, 2 * place + 3, 2 * other + 2, room, 0)
    put_arc(net, SOURCE, SINK, room, spare)
    return net


def best_ways(net):
    """A pair of dicts by nodes: the most that is gained on a way to it, and the number of the last arc of such a way.

    A way goes where there is room. No round of arcs gains anything in a net
    through which only best ways have been gone.
    """
    gains, came = {SOURCE: 0}, {}
    longer = True
    while longer:
        longer = False
        for number, (tail, head, room, gain) in enumerate(net):
            if room > 0 and tail in gains and (head not in gains or gains[tail] + gain > gains[head]):
                gains[head] = gains[tail] + gain
                came[head] = number
                longer = True
    return gains, came


def go_way(net, came):
    """Lets one chain more flow on the way that came tells."""
    node = SINK
    while node != SOURCE:
        arc, back = net[came[node]], net[came[node] ^ 1]
        arc[2] -= 1
        back[2] += 1
        node = arc[0]


def flowing_chain(net, flows, places):
    """The list of the places of one chain that flows; flows tells of each arc how much, and is brought up to date."""
    node, chain = SOURCE, []
    while node != SINK:
        number = [arc for arc in flows if net[arc][0] == node and flows[arc] > 0][0]
        flows[number] -= 1
        if number < 2 * places:
            chain.append(number // 2)
        node = net[number][1]
    return chain


def best_few(worths, followers, many, spare):
    """The best chains, at most so many, of places whose worths and lists of followers are told.

    Each chain fewer than so many gains what it spares. A quadruple: the list of
    the best sums for 1, 2 chains and so on; the list of the chains; TOLL and the
    list of REBATES: what a chain gains beyond the rebates is at most TOLL. A
    rebate is what a worth is more than best ways gain from the one node of a
    place to the other one. This is from 0 to the worth: what flows through can
    be turned back there, and, as what follows a follower follows, can as well
    go past.
    """
    net = chain_net(worths, followers, many, spare)
    sums = []
    for _ in range(many):
        gains, came = best_ways(net)
        go_way(net, came)
        sums.append(gains[SINK] + (sums[-1] if sums else 0))
    gains, _ = best_ways(net)
    flows = {number: net[number + 1][2] for number in range(0, len(net), 2)}
    chains = [flowing_chain(net, flows, len(worths)) for _ in range(many)]
    rebates = []
    for place, worth in enumerate(worths):
        rebates.append(worth - gains[2 * place + 3] + gains[2 * place + 2])
    return sums, [chain for chain in chains if chain != []], gains[SINK], rebates
