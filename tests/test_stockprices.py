"""fewindexes/stockprices.py: CHANGES by PRICES and UPKEEPS, LIMITS, the PAPER (points 43, 44, 45)."""

import unittest
from itertools import combinations
from random import Random
from time import perf_counter

from fewindexes.prices import least_cost
from fewindexes.stock import best_change
from fewindexes.stockprices import (change_cost, change_paper, cheapest_change, check_change, least_change_cost,
                                    limit_of)
from cases import (ODD_THINGS, THORNS, Oddity, Thorny, ahead_by_all, all_indexes, are_amounts, are_indexes, bare_by_all,
                   changed, error_of, served_table, serves_by_fact, some_demands)
from price_cases import cost, least_by_all, price, some_prices
from stock_cases import lost_by_all, some_stocks

SERVED = {columns: served_table(columns) for columns in (1, 2, 3)}
SMALL = (some_demands(1, (1, 2, 3), 4, 1) + some_demands(2, (1, 2, 4, 6, 9), 14, 2)
         + some_demands(3, (1, 3, 5, 8), 24, 3))
BIG = some_demands(8, (12,), 8, 4) + some_demands(4, (12,), 8, 6)
UP, DOWN, TWO, BOTH = ((0, "up"),), ((0, "down"),), ((1, "up"),), ((0, "up"), (1, "up"))


def some_upkeeps(many, seed):
    """UPKEEPS of many kinds: 0, alike ones, small ones, 1,000."""
    source = Random(seed)
    found = [(0,) * many, (1000,) * many]
    for most in (1, 4, 12, 1000):
        found.append(tuple(source.randint(0, most) for _ in range(many)))
    return found


def cases(demands, sizes=None):
    """DEMANDS with PRICES, STOCKS and UPKEEPS, each once."""
    for at, demand in enumerate(demands):
        for place, stock in enumerate(some_stocks(demand[0], demand, at)):
            if sizes is None or len(stock) in sizes:
                prices = some_prices(demand[0], at)[(at + place) % 8]
                yield demand, prices, stock, some_upkeeps(len(stock), at)[(at + 2 * place) % 6]


def all_keeps(many):
    return [keep for size in range(many + 1) for keep in combinations(range(many), size)]


def left_cost(demand, prices, kept, seen):
    """The LEAST COST of what the INDEXES that are kept leave LOST."""
    left = (demand[0], tuple(demand[1][number] for number in lost_by_all(demand, kept)))
    if left not in seen:
        seen[left] = least_by_all(left, prices, SERVED[demand[0]]) if demand[0] in SERVED else (
            least_cost(left, prices) if left[1] else 0)
    return seen[left]


def costs_by_all(demand, prices, stock, upkeeps):
    """For each KEEP the least COST of CHANGES, by trying all INDEXES that come."""
    seen = {}
    return {keep: sum(upkeeps[number] for number in keep)
            + left_cost(demand, prices, [stock[number] for number in keep], seen) for keep in all_keeps(len(stock))}


def is_right_change(demand, stock, change, most=12):
    """Whether a thing, of any kind, is a CHANGE with at most so many INDEXES in ADD."""
    if type(change) is not tuple or len(change) != 2:
        return False
    keep, add = change
    if repr(keep) not in set(map(repr, all_keeps(len(stock)))) or type(keep) is not tuple:
        return False
    if not are_indexes(add, demand[0], most):
        return False
    there = {stock[number] for number in keep} | set(add)
    return all(SERVED[demand[0]][lookup] & there for lookup in demand[1])


class Least(unittest.TestCase):
    def test_beside_all_keeps(self):
        for demand, prices, stock, upkeeps in cases(SMALL):
            costs = costs_by_all(demand, prices, stock, upkeeps)
            least = min(costs.values())
            self.assertEqual(least_change_cost(demand, prices, stock, upkeeps), least, (demand, prices, stock, upkeeps))
            change = cheapest_change(demand, prices, stock, upkeeps)
            self.assertTrue(is_right_change(demand, stock, change))
            self.assertEqual(change_cost(demand, prices, stock, upkeeps, change), least)
            self.assertEqual(sum(upkeeps[number] for number in change[0]) + cost(prices, change[1]), least)

    def test_limits_beside_all_keeps(self):
        for demand, prices, stock, upkeeps in cases(SMALL):
            for number in range(len(stock)):
                costs = costs_by_all(demand, prices, stock, upkeeps[:number] + (0,) + upkeeps[number + 1:])
                told = (min(cost for keep, cost in costs.items() if number not in keep)
                        - min(cost for keep, cost in costs.items() if number in keep))
                self.assertEqual(limit_of(demand, prices, stock, upkeeps, number), told)
                self.assertGreaterEqual(told, 0)

    def test_limits_beside_least_costs(self):
        # the Facts of point 44, by whether keeping it is as cheap as not keeping it
        for demand, prices, stock, upkeeps in list(cases(SMALL))[::3] + list(cases(BIG, (1, 2, 3)))[::3]:
            for number in range(len(stock)):
                limit = limit_of(demand, prices, stock, upkeeps, number)
                for upkeep in {max(0, limit - 1), limit, limit + 1}:
                    if upkeep <= 1000:
                        told = upkeeps[:number] + (upkeep,) + upkeeps[number + 1:]
                        costs = costs_by_all(demand, prices, stock, told)
                        least = least_change_cost(demand, prices, stock, told)
                        kept = min(cost for keep, cost in costs.items() if number in keep)
                        gone = min(cost for keep, cost in costs.items() if number not in keep)
                        self.assertEqual(least, min(kept, gone))
                        self.assertEqual(kept == least, upkeep <= limit)
                        self.assertEqual(gone != least, upkeep < limit)

    def test_big_ones(self):
        for demand, prices, stock, upkeeps in cases(BIG, (0, 2, 5)):
            costs = costs_by_all(demand, prices, stock, upkeeps)
            change = cheapest_change(demand, prices, stock, upkeeps)
            self.assertEqual(least_change_cost(demand, prices, stock, upkeeps), min(costs.values()))
            self.assertEqual(change_cost(demand, prices, stock, upkeeps, change), min(costs.values()))

    def test_eight_indexes_in_reasonable_time(self):
        began = perf_counter()
        for demand, prices, stock, upkeeps in cases(BIG, (8,)):
            least = least_change_cost(demand, prices, stock, upkeeps)
            limits = [limit_of(demand, prices, stock, upkeeps, number) for number in range(len(stock))]
            keep, _ = cheapest_change(demand, prices, stock, upkeeps)
            for number, limit in enumerate(limits):
                if number in keep:
                    self.assertLessEqual(upkeeps[number], limit)
                else:
                    self.assertGreaterEqual(upkeeps[number], limit)
            self.assertLessEqual(least, least_cost(demand, prices))
        self.assertLess(perf_counter() - began, 60)

    def test_by_hand(self):
        demand = (2, (((0,), ()), ((0, 1), ()), ((1,), ())))
        stock = (UP, TWO)
        self.assertEqual(least_change_cost(demand, (3, 5), (), ()), 11)
        for upkeeps, told, limits in (((0, 0), 8, (0, 0)), ((9, 9), 11, (3, 3)), ((1, 1), 9, (1, 1)), ((0, 3), 8, (3, 0)),
                                      ((2, 0), 8, (0, 2)), ((3, 4), 11, (3, 3)), ((1000, 1000), 11, (3, 3))):
            self.assertEqual(least_change_cost(demand, (3, 5), stock, upkeeps), told, upkeeps)
            self.assertEqual(tuple(limit_of(demand, (3, 5), stock, upkeeps, number) for number in (0, 1)), limits)
        self.assertEqual(cheapest_change(demand, (3, 5), stock, (9, 1))[0], (1,))
        self.assertEqual(cheapest_change(demand, (3, 5), stock, (2, 9))[0], (0,))
        self.assertEqual(cheapest_change(demand, (3, 5), stock, (4, 4))[0], ())
        self.assertEqual(cheapest_change(demand, (3, 5), (BOTH, TWO), (4, 1)), ((0, 1), ()))
        self.assertEqual(least_change_cost(demand, (3, 5), (BOTH, TWO), (4, 1)), 5)
        self.assertEqual(cheapest_change(demand, (0, 0), stock, (7, 7))[0], ())
        self.assertEqual(least_change_cost(demand, (0, 0), stock, (7, 7)), 0)

    def test_upkeeps_of_nothing(self):
        # with UPKEEPS of 0 all may stay; what is LOST then is what comes
        for demand, prices, stock, _ in cases(SMALL + BIG, (1, 2, 3, 5)):
            left = (demand[0], tuple(demand[1][number] for number in lost_by_all(demand, stock)))
            told = least_cost(left, prices) if left[1] else 0
            self.assertEqual(least_change_cost(demand, prices, stock, (0,) * len(stock)), told)


class ChangeCost(unittest.TestCase):
    DEMAND = (2, (((0,), ()), ((0, 1), ()), ((1,), ())))
    STOCK = (UP, TWO)

    def test_by_hand(self):
        for change, told in ((((), (BOTH, TWO)), 13), (((0,), (BOTH, TWO)), 20), (((0, 1), (BOTH,)), 26), (((1,), (BOTH,)), 19),
                             (((1,), (BOTH,) * 12), 11 + 96), (((0,), (BOTH, BOTH, TWO, DOWN)), 31),
                             (((0,), (((1, "down"), (0, "up")),)), 15)):
            self.assertEqual(change_cost(self.DEMAND, (3, 5), self.STOCK, (7, 11), change), told)

    def test_best_changes_are_changes(self):
        for demand, prices, stock, upkeeps in cases(SMALL + BIG):
            keep, add = change = best_change(demand, stock)
            told = sum(upkeeps[number] for number in keep) + cost(prices, add)
            self.assertEqual(change_cost(demand, prices, stock, upkeeps, change), told)
            self.assertGreaterEqual(told, least_change_cost(demand, prices, stock, upkeeps) if len(stock) < 6 else 0)

    def test_change(self):
        good = ((1,), (BOTH,))
        for wrong in changed(good, THORNS):
            told = error_of(change_cost, self.DEMAND, (3, 5), self.STOCK, (7, 11), wrong)
            if is_right_change(self.DEMAND, self.STOCK, wrong):
                self.assertIsNone(told)
            else:
                self.assertEqual(told[0], "BadChange")
                self.assertIs(told[1]["given"], wrong)
        for wrong in (((1,), (BOTH,) * 13), ((0, 1), ()), ((0,), (BOTH,)), ((), ()), ((1, 0), (BOTH,)), ((1, 1), (BOTH,)),
                      ((2,), (BOTH, TWO)), ((True,), (BOTH,)), ((1,), [BOTH]), ([1], (BOTH,)), [(1,), (BOTH,)], Oddity(),
                      Thorny(), (Thorny(), (BOTH,)), ((1,), Thorny()), ((1,), (BOTH, Oddity()))):
            kind, fields = error_of(change_cost, self.DEMAND, (3, 5), self.STOCK, (7, 11), wrong)
            self.assertEqual(kind, "BadChange")
            self.assertIs(fields["given"], wrong)


class Paper(unittest.TestCase):
    def test_the_told_paper_holds(self):
        for demand, prices, stock, upkeeps in cases(SMALL + BIG, range(7)):
            change, tree = paper = change_paper(demand, prices, stock, upkeeps)
            least = least_change_cost(demand, prices, stock, upkeeps)
            self.assertEqual(check_change(demand, prices, stock, upkeeps, paper), least)
            self.assertEqual(change_cost(demand, prices, stock, upkeeps, change), least)
            if demand[0] < 4:
                self.assertTrue(is_tree(demand, prices, stock, upkeeps, least, {}, tree))

    def test_six_seven_and_eight_indexes(self):
        source = Random(1)
        demand = (3, tuple(sorted([((0,), ()), ((1, 2), ()), ((2,), ((0, "up"),)), ((), ((1, "up"), (2, "down")))])))
        for many in (6, 7, 8):
            for _ in range(4):
                stock = tuple(sorted(source.sample(all_indexes(3), many)))
                upkeeps = tuple(source.randint(0, 9) for _ in stock)
                wanted = ("TooMany", {"most": 6}) if many > 6 else None
                self.assertEqual(error_of(change_paper, demand, (3, 4, 5), stock, upkeeps), wanted)
                self.assertEqual(error_of(check_change, demand, (3, 4, 5), stock, upkeeps, None),
                                 wanted or ("BadPaper", {"part": "form"}))
                change = cheapest_change(demand, (3, 4, 5), stock, upkeeps)
                self.assertEqual(error_of(change_cost, demand, (3, 4, 5), stock, upkeeps, change), None)
                self.assertIsInstance(limit_of(demand, (3, 4, 5), stock, upkeeps, many - 1), int)
                if many == 6:
                    paper = change_paper(demand, (3, 4, 5), stock, upkeeps)
                    self.assertEqual(check_change(demand, (3, 4, 5), stock, upkeeps, paper),
                                     least_change_cost(demand, (3, 4, 5), stock, upkeeps))


def is_tree(demand, prices, stock, upkeeps, least, told, tree):
    """Point 45, of a thing of any kind: whether it is a TREE; told has True or False for each INDEX on the way."""
    if type(tree) is not tuple or not tree or type(tree[0]) is not str:
        return False
    if tree[0] == "stock" and len(tree) == 4:
        number = tree[1]
        if type(number) is not int or number not in range(len(stock)) or number in told:
            return False
        return all(is_tree(demand, prices, stock, upkeeps, least, {**told, number: kept}, part)
                   for kept, part in ((True, tree[2]), (False, tree[3])))
    if tree[0] != "bound" or len(tree) != 3:
        return False
    there = [index for number, index in enumerate(stock) if told.get(number, True)]
    lesser = (demand[0], tuple(lookup for lookup in demand[1] if not any(serves_by_fact(index, lookup) for index in there)))
    paid = sum(upkeeps[number] for number in told if told[number])
    return is_bound(lesser, prices, least - paid, tree[1], tree[2])


def is_bound(demand, prices, least, outs, ins):
    columns, lookups = demand
    bare = bare_by_all(demand, SERVED[columns])
    if not are_amounts(outs, len(bare)) or not are_amounts(ins, len(bare)):
        return False
    last = {number: price(prices, {*lookups[number][0], *dict(lookups[number][1])}) for number in bare}
    places = {number: at for at, number in enumerate(bare)}
    for one, other in ahead_by_all(demand, SERVED[columns]):
        if outs[places[one]] + ins[places[other]] < last[one]:
            return False
    return sum(last.values()) - sum(outs) - sum(ins) >= least


class CheckChange(unittest.TestCase):
    DEMAND = (2, (((0,), ()), ((0, 1), ()), ((1,), ())))
    STOCK, UPKEEPS, PRICES = (UP, TWO), (2, 1), (3, 5)
    CHANGE = ((1,), (BOTH,))
    TREE = ("stock", 1, ("bound", (0,), (0,)), ("stock", 0, ("bound", (0, 5), (0, 0)), ("bound", (0, 0, 2), (0, 3, 0))))

    def part(self, paper, upkeeps=UPKEEPS):
        name, fields = error_of(check_change, self.DEMAND, self.PRICES, self.STOCK, upkeeps, paper)
        self.assertEqual(name, "BadPaper")
        return fields["part"]

    def good(self, paper, told=9, upkeeps=UPKEEPS):
        self.assertEqual(check_change(self.DEMAND, self.PRICES, self.STOCK, upkeeps, paper), told)

    def test_right_ones(self):
        self.good((self.CHANGE, self.TREE))
        self.good((((1,), (((0, "down"), (1, "up")),)), self.TREE))
        # all three are left where both are gone: 3, 8 and 5, less what OUTS and INS take away
        for outs, ins, told in (((0, 0, 0), (0, 5, 0), True), ((1, 0, 3), (0, 2, 0), True), ((2, 0, 4), (0, 1, 0), True),
                                ((3, 0, 5), (0, 0, 0), False), ((0, 0, 2), (0, 2, 0), False), ((0, 0, 1), (0, 3, 0), False),
                                ((0, 0, 2), (0, 4, 1), True), ((0, 0, 2), (0, 4, 2), False), ((0, 1, 2), (1, 3, 0), True)):
            for kept in (("bound", (0,), (0,)), ("stock", 0, ("bound", (0,), (0,)), ("bound", (0, 0), (3, 0)))):
                for other in (("bound", (0, 5), (0, 0)), ("bound", (0, 0), (5, 0)), ("bound", (0, 4), (1, 1))):
                    tree = ("stock", 1, kept, ("stock", 0, other, ("bound", outs, ins)))
                    due = is_tree(self.DEMAND, self.PRICES, self.STOCK, self.UPKEEPS, 9, {}, tree)
                    found = error_of(check_change, self.DEMAND, self.PRICES, self.STOCK, self.UPKEEPS, (self.CHANGE, tree))
                    self.assertEqual(found, None if due else ("BadPaper", {"part": "tree"}), tree)
                    if kept[0] == "bound":
                        self.assertEqual(due, told, tree)

    def find(self, demand, prices, stock, upkeeps):
        paper = change_paper(demand, prices, stock, upkeeps)
        return paper, check_change(demand, prices, stock, upkeeps, paper)

    def test_no_index_and_no_lookup(self):
        (change, tree), told = self.find((1, (((0,), ()),)), (7,), (), ())
        self.assertIn(change, (((), (UP,)), ((), (DOWN,))))
        self.assertEqual((tree, told), (("bound", (0,), (0,)), 7))
        demand = (1, (((0,), ()),))
        for leaf in (("bound", (), ()),):
            self.assertEqual(check_change(demand, (7,), (UP,), (0,), (((0,), ()), leaf)), 0)
            self.assertEqual(error_of(check_change, demand, (7,), (UP,), (1,), (((0,), ()), leaf)), ("BadPaper", {"part": "tree"}))
            whole = ("stock", 0, leaf, ("bound", (0,), (0,)))
            self.assertEqual(check_change(demand, (7,), (UP,), (1,), (((0,), ()), whole)), 1)
            self.assertEqual(check_change(demand, (7,), (UP,), (7,), (((0,), ()), whole)), 7)
            self.assertEqual(check_change(demand, (7,), (UP,), (7,), (((), (DOWN,)), whole)), 7)
            self.assertEqual(check_change(demand, (7,), (UP,), (9,), (((), (UP,)), whole)), 7)
            self.assertEqual(error_of(check_change, demand, (7,), (UP,), (9,), (((0,), ()), whole)), ("BadPaper", {"part": "tree"}))
        for outs, ins in (((0,), ()), ((), (0,)), ((0,), (0,))):
            self.assertEqual(error_of(check_change, demand, (7,), (UP,), (0,), (((0,), ()), ("bound", outs, ins))),
                             ("BadPaper", {"part": "tree"}))

    def test_form(self):
        for paper in (None, 0, True, "ab", (), [], {}, (self.CHANGE,), (self.CHANGE, self.TREE, ()), [self.CHANGE, self.TREE],
                      Oddity(), Thorny()):
            self.assertEqual(self.part(paper), "form")

    def test_change(self):
        for wrong in (None, 0, True, "ab", (), [], {}, ((1,),), ((1,), (BOTH,), ()), [(1,), (BOTH,)], ((1,), ()), ((0, 1), ()),
                      ((0,), (BOTH,)), ((1, 0), (BOTH,)), ((1, 1), (BOTH,)), ((2,), (BOTH,)), ((-1,), (BOTH,)), ((True,), (BOTH,)),
                      ((1,), (BOTH,) * 13), ((1,), [BOTH]), ([1], (BOTH,)), ((1,), (BOTH, ())), ((1,), (BOTH, ((2, "up"),))),
                      Oddity(), Thorny(), (Oddity(), (BOTH,)), ((1,), Thorny()), ((1,), (Thorny(),))):
            for tree in (self.TREE, None):
                self.assertEqual(self.part((wrong, tree)), "change")
        # twelve are no fault by themselves, but cost more
        self.assertEqual(self.part((((1,), (BOTH,) * 12), self.TREE)), "tree")

    def test_tree(self):
        kept, gone = self.TREE[2:]
        for wrong in (None, 0, True, "x", (), [], {}, ("stock",), ("stock", 1), ("stock", 1, kept), ("bound",), ("bound", ()),
                      ("Stock", 1, kept, gone), ("stock", 1, gone, kept), ("stock", 0, kept, gone), ("stock", 2, kept, gone),
                      ("stock", -1, kept, gone), ("stock", True, kept, gone), ("stock", None, kept, gone), ("bound", (), ()),
                      ("stock", 1, kept, gone, gone), ["stock", 1, kept, gone], ("stock", 1, ("stock", 1, kept, kept), gone),
                      ("stock", 1, kept, ("stock", 1, kept, gone)), ("stock", 1, ("stock", 1, kept, gone[2]), gone),
                      ("stock", 1, kept, ("stock", 0, gone[2], ("stock", 1, gone[3], gone[3]))), ("bound", 1, kept, gone), (b"stock", 1, kept, gone),
                      ("stock", 1, None, gone), ("stock", 1, kept, None), Oddity(), Thorny(), ("stock", Oddity(), kept, gone),
                      ("stock", 1, Thorny(), gone), (Oddity(), 1, kept, gone), (None, 1, kept, gone)):
            self.assertEqual(self.part((self.CHANGE, wrong)), "tree", wrong)
        for amounts in (None, 0, True, "x", [], [0], {}, (), (1,), (0, 0), (-1,), (False,), ("0",), ((0,),), Oddity(), Thorny(),
                        (Oddity(),), (Thorny(),)):
            for leaf in (("bound", amounts, (0,)), ("bound", (0,), amounts)):
                self.assertEqual(self.part((self.CHANGE, ("stock", 1, leaf, gone))), "tree", leaf)

    def due(self, demand, prices, stock, upkeeps, paper):
        """By the definitions: the part that is due of a PAPER, or None of one that holds."""
        if type(paper) is not tuple or len(paper) != 2:
            return "form"
        change, tree = paper
        if not is_right_change(demand, stock, change):
            return "change"
        least = sum(upkeeps[number] for number in change[0]) + cost(prices, change[1])
        return None if is_tree(demand, prices, stock, upkeeps, least, {}, tree) else "tree"

    def test_changed_papers(self):
        tried = [(self.DEMAND, self.PRICES, self.STOCK, self.UPKEEPS), (self.DEMAND, self.PRICES, self.STOCK, (3, 3))]
        tried += list(cases(SMALL, (0, 1, 2, 3)))[1::8]
        done = 0
        for case in tried:
            paper = change_paper(*case)
            if len(repr(paper)) < 500:
                done += 1
                for wrong in (paper, *changed(paper, THORNS)):
                    part = self.due(*case, wrong)
                    told = error_of(check_change, *case, wrong)
                    self.assertEqual(told, None if part is None else ("BadPaper", {"part": part}), wrong)
        self.assertGreater(done, 10)

    def test_drawn_trees(self):
        # whatever holds tells the least COST; each leaf is drawn by itself
        source, held = Random(3), 0
        some = [(self.DEMAND, (1, 2), self.STOCK, upkeeps) for upkeeps in ((0, 0), (1, 1), (0, 1), (2, 1))]
        for _ in range(6000):
            case = source.choice(some)
            least = min(costs_by_all(*case).values())
            change = source.choice((((1,), (BOTH,)), ((0, 1), (BOTH,)), ((), (BOTH, TWO)), ((0,), (((1, "up"), (0, "up")),))))
            paper = (change, self.drawn(source, {}))
            part = self.due(*case, paper)
            self.assertEqual(error_of(check_change, *case, paper), None if part is None else ("BadPaper", {"part": part}))
            if part is None:
                held += 1
                self.assertEqual(check_change(*case, paper), least)
        self.assertGreater(held, 5)

    def drawn(self, source, told):
        left = [number for number in range(2) if number not in told]
        if left and source.random() < 0.85:
            number = source.choice(left)
            return ("stock", number, self.drawn(source, {**told, number: True}), self.drawn(source, {**told, number: False}))
        there = [index for number, index in enumerate(self.STOCK) if told.get(number, True)]
        many = len([lookup for lookup in self.DEMAND[1] if not any(serves_by_fact(index, lookup) for index in there)])
        return ("bound", tuple(source.choice((0, 0, 0, 1, 2)) for _ in range(many)), tuple(source.choice((0, 0, 0, 1)) for _ in range(many)))


class Refused(unittest.TestCase):
    DEMAND = (2, (((0,), ()), ((0, 1), ()), ((1,), ())))
    CALLS = ((change_cost, (None,)), (least_change_cost, ()), (cheapest_change, ()), (limit_of, (None,)), (change_paper, ()),
             (check_change, (None,)))

    def test_in_turn(self):
        for call, rest in self.CALLS:
            for demand, part in ((None, "form"), ((9, ()), "columns"), ((1, ()), "lookups"), ((1, (None,)), 0)):
                self.assertEqual(error_of(call, demand, None, None, None, *rest), ("BadDemand", {"part": part}))
            for prices in (*ODD_THINGS, (1,), (1, 2, 3), (1, -1), (1, 1001), (True, 1), [1, 2], Oddity(), Thorny(), (1, Thorny())):
                kind, fields = error_of(call, self.DEMAND, prices, None, None, *rest)
                self.assertEqual(kind, "BadPrices")
                self.assertIs(fields["given"], prices)
            for stock, number in ((None, None), ([], None), ({}, None), ((UP,) * 9, None), ((UP, UP), 1), ((TWO, UP), 1), ((None,), 0),
                                  ((UP, ((2, "up"),)), 1), (Oddity(), None), (Thorny(), None), ((Thorny(),), 0), ((UP, ()), 1)):
                self.assertEqual(error_of(call, self.DEMAND, (3, 5), stock, None, *rest), ("BadStock", {"number": number}))
            for upkeeps in (*ODD_THINGS, (1,), (1, 2, 3), (1, -1), (1, 1001), (True, 1), [1, 2], (1, "2"), Oddity(), Thorny(),
                            (Thorny(), 1)):
                kind, fields = error_of(call, self.DEMAND, (3, 5), (UP, TWO), upkeeps, *rest)
                self.assertEqual(kind, "BadUpkeeps")
                self.assertIs(fields["given"], upkeeps)
            for upkeeps in ((0,), None, Oddity()):
                kind, fields = error_of(call, self.DEMAND, (3, 5), (), upkeeps, *rest)
                self.assertEqual(kind, "BadUpkeeps")
            # more INDEXES than PAPERS are told of come behind what is wrong
            seven = tuple(sorted([UP, DOWN, TWO, BOTH, ((1, "down"),), ((0, "up"), (1, "down")), ((0, "down"), (1, "down"))]))
            self.assertEqual(error_of(call, self.DEMAND, (3, 5), seven, (0,) * 6, *rest)[0], "BadUpkeeps")

    def test_number(self):
        for number in (2, -1, True, False, None, "0", (), (0,), [], 10 ** 59, Oddity(), Thorny()):
            kind, fields = error_of(limit_of, self.DEMAND, (3, 5), (UP, TWO), (1, 1000), number)
            self.assertEqual(kind, "BadNumber")
            self.assertIs(fields["given"], number)
        self.assertEqual(error_of(limit_of, self.DEMAND, (3, 5), (), (), 0), ("BadNumber", {"given": 0}))
        self.assertIsNone(error_of(limit_of, self.DEMAND, (3, 5), (UP, TWO), (1, 1000), 1))


if __name__ == "__main__":
    unittest.main()
