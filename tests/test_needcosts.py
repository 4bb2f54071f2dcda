"""fewindexes/needcosts.py: the LEAST COST of NEEDS, its PAPER (points 36, 37)."""

import unittest
from itertools import product
from random import Random
from time import perf_counter

from fewindexes.needcosts import check_needcost, least_needcost, needcost_paper
from fewindexes.needs import least_for
from fewindexes.prices import least_cost
from cases import (ODD_THINGS, THORNS, Oddity, Thorny, ahead_by_all, all_lookups, are_amounts, are_indexes, bare_by_all,
                   changed, error_of, served_table, serves_by_fact, some_demands)
from need_cases import met_by, need_masks, some_needs, wrong_needs
from price_cases import cost, least_of_masks, price, some_prices

SERVED = {columns: served_table(columns) for columns in (1, 2, 3)}
ONE, TWO, BOTH = ((0,), ()), ((1,), ()), ((0, 1), ())
SIDE, WAY = ((), ((1, "up"),)), ((), ((0, "up"), (1, "down")))
SMALL = ([(1, needs) for needs in some_needs(1, ((1,), (3,), (2, 1), (1, 2, 3), (2, 2, 2, 1, 1, 1)), 8, 1)]
         + [(2, needs) for needs in some_needs(2, ((1,), (12,), (4, 3), (2, 1, 5), (1, 1, 1, 1), (2, 3, 2, 2)), 25, 2)]
         + [(3, needs) for needs in some_needs(3, ((2, 3, 4), (24,), (24, 4), (3, 3, 3, 3), (2, 2, 2, 2, 2, 2),
                                                   (1, 1, 1, 1, 1, 1)), 25, 3)])
BIG = ([(8, needs) for needs in some_needs(8, ((24, 12), (2, 2, 2, 2, 3, 6), (3, 3, 3, 3, 3, 1), (12, 24)), 8, 4)]
       + [(4, needs) for needs in some_needs(4, ((5, 5, 4, 3), (2, 2, 2, 2, 3, 6), (10, 10, 3)), 8, 5)])


def demand_of(columns, chosen):
    """The DEMAND of what is chosen: each once, ascending."""
    return (columns, tuple(sorted(set(chosen))))


def least_by_choices(columns, needs, prices):
    """The Fact of point 36: the least one, over all CHOICES, of the LEAST COSTS of the LOOKUPS that are chosen."""
    told = {demand_of(columns, choice) for choice in product(*needs)}
    return min(least_cost(demand, prices) for demand in told)


class Least(unittest.TestCase):
    def test_beside_all_indexes(self):
        for at, (columns, needs) in enumerate(SMALL):
            masks = need_masks(SERVED[columns], needs)
            for prices in some_prices(columns, at):
                self.assertEqual(least_needcost(columns, needs, prices), least_of_masks(masks, prices, len(needs)))

    def test_beside_all_choices(self):
        for at, (columns, needs) in enumerate(SMALL[::2] + BIG):
            for prices in some_prices(columns, at)[at % 4::4]:
                self.assertEqual(least_needcost(columns, needs, prices), least_by_choices(columns, needs, prices))

    def test_needs_with_one_lookup_are_a_demand(self):
        for columns, lookups in some_demands(5, (1, 3, 6), 15, 9):
            needs = tuple((lookup,) for lookup in lookups)
            for prices in some_prices(columns, 3):
                self.assertEqual(least_needcost(columns, needs, prices), least_cost((columns, lookups), prices))
                self.assertEqual(least_needcost(columns, needs[::-1], prices), least_cost((columns, lookups), prices))

    def test_by_hand(self):
        self.assertEqual(least_needcost(2, ((ONE, TWO),), (3, 5)), 3)
        self.assertEqual(least_needcost(2, ((ONE, TWO),), (5, 3)), 3)
        self.assertEqual(least_needcost(2, ((ONE,), (TWO,)), (3, 5)), 8)
        # one INDEX of both columns for the price of both, not that of the first one and one beside
        self.assertEqual(least_needcost(2, ((ONE,), (BOTH, TWO)), (3, 5)), 8)
        self.assertEqual(least_needcost(2, ((ONE,), (BOTH, TWO), (BOTH,)), (3, 5)), 8)
        self.assertEqual(least_needcost(2, ((TWO,), (WAY, ONE), (BOTH,)), (3, 5)), 8 + 3)
        # the fewest are not always the cheapest to choose: two of one column, or one of three
        cheap = ((((0,), ()), ((0, 1, 2), ())), (((0, 1, 2), ()), ((1,), ())))
        self.assertEqual(least_for(3, cheap), 1)
        self.assertEqual(least_needcost(3, cheap, (1, 1, 9)), 2)
        self.assertEqual(least_needcost(3, cheap, (4, 5, 0)), 9)
        self.assertEqual(least_needcost(2, ((ONE,),) * 6, (1000, 0)), 1000)
        self.assertEqual(least_needcost(8, tuple((((column,), ()),) for column in range(6)), (1000,) * 8), 6000)
        self.assertEqual(least_needcost(2, ((ONE,), (BOTH, TWO)), (0, 0)), 0)

    def test_the_told_paper_holds(self):
        for at, (columns, needs) in enumerate(SMALL + BIG):
            for prices in some_prices(columns, at)[at % 4::4]:
                indexes, tree = paper = needcost_paper(columns, needs, prices)
                told = least_needcost(columns, needs, prices)
                self.assertEqual(check_needcost(columns, needs, prices, paper), told)
                self.assertEqual(cost(prices, indexes), told)
                self.assertLessEqual(len(indexes), 12)
                for need in needs:
                    self.assertTrue(any(serves_by_fact(index, lookup) for index in indexes for lookup in need))
                if columns < 4:
                    self.assertTrue(is_tree(columns, needs, prices, told, {}, tree))

    def test_three_hundred_choices_in_reasonable_time(self):
        source, began = Random(7), perf_counter()
        for sizes in ((2, 2, 3, 5, 5), (24, 12), (2, 2, 3, 5, 5, 1), (12, 5, 5)):
            needs = tuple(tuple(sorted(source.sample(all_lookups(3), size))) for size in sizes)
            paper = needcost_paper(3, needs, (3, 7, 900))
            self.assertEqual(check_needcost(3, needs, (3, 7, 900), paper), least_needcost(3, needs, (3, 7, 900)))
        self.assertLess(perf_counter() - began, 60)


def is_tree(columns, needs, prices, least, chosen, tree):
    """Point 37, of a thing of any kind: whether it is a TREE behind the LOOKUPS that are chosen."""
    if type(tree) is not tuple or len(tree) != 3 or type(tree[0]) is not str:
        return False
    if tree[0] == "dear":
        return is_dear(demand_of(columns, chosen.values()), prices, least, tree[1], tree[2])
    if tree[0] != "need":
        return False
    number, trees = tree[1:]
    if type(number) is not int or number not in range(len(needs)) or number in chosen or type(trees) is not tuple:
        return False
    return len(trees) == len(needs[number]) and all(
        is_tree(columns, needs, prices, least, {**chosen, number: lookup}, part) for lookup, part in zip(needs[number], trees))


def is_dear(demand, prices, least, outs, ins):
    """Whether OUTS and INS are as told of a DEMAND that is perhaps empty, and show that it costs so much."""
    columns, lookups = demand
    bare = bare_by_all(demand, SERVED[columns])
    if not are_amounts(outs, len(bare)) or not are_amounts(ins, len(bare)):
        return False
    last = {number: price(prices, {*lookups[number][0], *dict(lookups[number][1])}) for number in bare}
    told = {number: at for at, number in enumerate(bare)}
    for one, other in ahead_by_all(demand, SERVED[columns]):
        if outs[told[one]] + ins[told[other]] < last[one]:
            return False
    return sum(last.values()) - sum(outs) - sum(ins) >= least


class CheckNeedcost(unittest.TestCase):
    NEEDS = ((ONE, TWO), (BOTH,), (SIDE,))
    PRICES = (3, 5)
    INDEXES = (((1, "up"), (0, "up")),)
    TREE = ("need", 1, (("need", 2, (("dear", (5, 0), (0, 0)),)),))

    def part(self, paper, needs=NEEDS, prices=PRICES):
        name, fields = error_of(check_needcost, 2, needs, prices, paper)
        self.assertEqual(name, "BadPaper")
        return fields["part"]

    def test_right_ones(self):
        for tree in (self.TREE, ("need", 2, (("need", 1, (("dear", (5, 0), (0, 0)),)),)),
                     ("need", 1, (("need", 2, (("dear", (0, 0), (0, 5)),)),)),
                     ("need", 1, (("need", 2, (("dear", (2, 0), (0, 3)),)),)), ("need", 1, (("dear", (0,), (0,)),)),
                     ("need", 0, (("need", 1, (("dear", (3, 0), (0, 0)),)), ("need", 1, (("dear", (0, 5), (0, 0)),)))),
                     ("need", 0, (("need", 1, (("dear", (0, 0), (0, 3)),)), ("need", 1, (("dear", (0, 0), (5, 0)),))))):
            for indexes in (self.INDEXES, (((1, "down"), (0, "up")),)):
                self.assertEqual(check_needcost(2, self.NEEDS, self.PRICES, (indexes, tree)), 8, tree)

    def test_what_costs_no_less_can_be_more(self):
        # a leaf can show more than COST; COST can be nothing at all
        needs = ((ONE, BOTH),)
        tree = ("need", 0, (("dear", (0,), (0,)), ("dear", (0,), (0,))))
        self.assertEqual(check_needcost(2, needs, (3, 5), ((((0, "up"),),), tree)), 3)
        self.assertEqual(check_needcost(2, needs, (3, 5), ((((0, "down"),),), ("need", 0, (("dear", (0,), (0,)),
                                                                                          ("dear", (2,), (3,)))))), 3)
        self.assertEqual(self.part(((((0, "up"),),), ("need", 0, (("dear", (0,), (0,)), ("dear", (3,), (3,))))), needs), "tree")
        self.assertEqual(self.part(((((0, "up"),),), ("need", 0, (("dear", (0,), (1,)), ("dear", (0,), (0,))))), needs), "tree")
        self.assertEqual(check_needcost(2, needs, (0, 9), ((((0, "up"),),), ("dear", (), ()))), 0)
        self.assertEqual(check_needcost(2, needs, (0, 0), ((((1, "up"), (0, "up")), ((0, "up"),)), ("dear", (), ()))), 0)
        self.assertEqual(self.part(((((0, "up"),),), ("dear", (), ())), needs), "tree")

    def test_one_lookup_for_two_needs(self):
        needs = ((ONE,), (ONE,), (ONE, BOTH))
        tree = ("need", 0, (("need", 1, (("dear", (0,), (0,)),)),))
        self.assertEqual(check_needcost(2, needs, (3, 5), ((((0, "up"),),), tree)), 3)
        for outs in ((0, 0), ()):
            wrong = ("need", 0, (("need", 1, (("dear", outs, (0,)),)),))
            self.assertEqual(self.part(((((0, "up"),),), wrong), needs), "tree")

    def test_form(self):
        for paper in (None, 0, True, "ab", (), [], {}, (self.INDEXES,), (self.INDEXES, self.TREE, ()),
                      [self.INDEXES, self.TREE], Oddity(), Thorny()):
            self.assertEqual(self.part(paper), "form")

    def test_indexes(self):
        for wrong in (None, 0, True, "x", [], {}, (), [*self.INDEXES], (*self.INDEXES, ()), (*self.INDEXES, None),
                      (*self.INDEXES, ((2, "up"),)), (((0, "up"), (1, "up")),), self.INDEXES * 13, Oddity(), Thorny(),
                      (Oddity(),), (Thorny(), *self.INDEXES)):
            for tree in (self.TREE, None):
                self.assertEqual(self.part((wrong, tree)), "indexes")
        # twelve are no fault by themselves, but cost more
        self.assertEqual(self.part((self.INDEXES * 12, self.TREE)), "tree")
        self.assertEqual(check_needcost(2, self.NEEDS, (0, 0), (self.INDEXES * 12, ("dear", (), ()))), 0)

    def test_tree(self):
        end = ("dear", (5, 0), (0, 0))
        for wrong in (
            None, 0, True, "dear", (), [], {}, end, ("dear", (), ()), ("need", 1), ("need", 1, (end,), ()), [*self.TREE],
            ("Need", *self.TREE[1:]), ("need", True, self.TREE[2]), ("need", 3, (end,)), ("need", -1, (end,)),
            ("need", None, (end,)), ("need", (1,), (end,)), ("need", 1, ()), ("need", 1, self.TREE[2] * 2),
            ("need", 1, [*self.TREE[2]]), ("need", 1, (("need", 1, self.TREE[2]),)), ("need", 1, None),
            ("need", 0, (("need", 1, (("dear", (3, 0), (0, 0)),)),)), (b"need", 1, self.TREE[2]),
            ("need", 1, (("need", 2, (("Dear", (5, 0), (0, 0)),)),)), ("need", 1, (("need", 2, (("dear", (5, 0)),)),)),
            ("need", 1, (("need", 2, (("dear", (5, 0), (0, 0), 0),)),)), Oddity(), Thorny(), ("need", Oddity(), (end,)),
            ("need", 1, Oddity()), ("need", 1, (Thorny(),)), (Oddity(), 1, self.TREE[2]), (None, 1, self.TREE[2]),
            ("most", 1, self.TREE[2]), ("most", (0, 1)),
        ):
            self.assertEqual(self.part((self.INDEXES, wrong)), "tree")
        for amounts in (None, 0, True, "x", [], [5, 0], {}, (), (5,), (5, 0, 0), (4, 0), (5, 1), (6, 0), (6, -1), (0, 5),
                        (5, False), ("5", 0), (None, 0), ((5,), 0), Oddity(), Thorny(), (5, Thorny())):
            self.assertEqual(self.part((self.INDEXES, ("need", 1, (("need", 2, (("dear", amounts, (0, 0)),)),)))), "tree")
        for amounts in (None, 0, True, "x", [], [0, 0], {}, (), (0,), (0, 0, 0), (0, 1), (1, 0), (0, -1), (False, 0),
                        (0, "0"), Oddity(), Thorny(), (Oddity(), 0)):
            self.assertEqual(self.part((self.INDEXES, ("need", 1, (("need", 2, (("dear", (5, 0), amounts),)),)))), "tree")

    def due(self, columns, needs, prices, paper):
        """By the definitions: the part that is due of a PAPER, or None of one that holds."""
        if type(paper) is not tuple or len(paper) != 2:
            return "form"
        indexes, tree = paper
        if not are_indexes(indexes, columns, 12) or not met_by(SERVED[columns], needs, indexes):
            return "indexes"
        return None if is_tree(columns, needs, prices, cost(prices, indexes), {}, tree) else "tree"

    def test_changed_papers(self):
        tried = [(2, self.NEEDS, self.PRICES), (2, ((ONE,), (TWO,), (ONE, TWO)), (4, 4))]
        tried += [(columns, needs, some_prices(columns, at)[at % 8]) for at, (columns, needs) in enumerate(SMALL[8:58:4])]
        done = 0
        for columns, needs, prices in tried:
            paper = needcost_paper(columns, needs, prices)
            if len(repr(paper)) < 1200:
                done += 1
                for wrong in (paper, *changed(paper, THORNS)):
                    part = self.due(columns, needs, prices, wrong)
                    told = error_of(check_needcost, columns, needs, prices, wrong)
                    self.assertEqual(told, None if part is None else ("BadPaper", {"part": part}), wrong)
        self.assertGreater(done, 8)

    def test_whatever_holds_is_the_least_cost(self):
        # all OUTS and INS of small amounts, for one TREE and all INDEXES of a few
        needs, prices, held = ((ONE,), (BOTH, TWO)), (1, 2), 0
        for indexes in ((((0, "up"), (1, "up")),), (((0, "up"),), ((1, "up"),))):
            for one in product(range(3), repeat=4):
                for other in ((0, 0, 0, 0), (0, 1, 0, 0), (1, 0, 0, 0)):
                    tree = ("need", 0, (("need", 1, (("dear", one[:2], one[2:]), ("dear", other[:2], other[2:]))),))
                    part = self.due(2, needs, prices, (indexes, tree))
                    told = error_of(check_needcost, 2, needs, prices, (indexes, tree))
                    self.assertEqual(told, None if part is None else ("BadPaper", {"part": part}))
                    if part is None:
                        self.assertEqual(check_needcost(2, needs, prices, (indexes, tree)), 3)
                        held += 1
        self.assertEqual(held, 4)


class Refused(unittest.TestCase):
    CALLS = ((least_needcost, ()), (needcost_paper, ()), (check_needcost, ("wrong",)))

    def test_columns_and_needs(self):
        for call, rest in self.CALLS:
            for columns in (0, 9, None, True, "2", Oddity(), Thorny()):
                kind, fields = error_of(call, columns, None, None, *rest)
                self.assertEqual(kind, "BadNumber")
                self.assertIs(fields["given"], columns)
            for needs, number in wrong_needs((ONE, BOTH, TWO)) + [(Oddity(), None), (Thorny(), None), ((Thorny(),), 0)]:
                self.assertEqual(error_of(call, 3, needs, None, *rest), ("BadNeeds", {"number": number}))

    def test_prices(self):
        many = (tuple(all_lookups(3)[:24]), tuple(all_lookups(3)[:13]))
        for call, rest in self.CALLS:
            for needs in (((ONE, BOTH),), many):
                for prices in (*ODD_THINGS, (1, 2), (1, 2, 3, 4), (1, 2, -1), (1, 1001, 2), (True, 1, 1), (1, None, 1),
                               [1, 2, 3], (1, "2", 3), ((1,), 2, 3), Oddity(), Thorny(), (Oddity(), 1, 1)):
                    kind, fields = error_of(call, 3, needs, prices, *rest)
                    self.assertEqual(kind, "BadPrices")
                    self.assertIs(fields["given"], prices)

    def test_too_many(self):
        lookups = all_lookups(3)
        for sizes, told in (((24, 12), 288), ((24, 13), 312), ((12, 5, 5), 300), ((16, 19), 304), ((24,) * 6, 24 ** 6),
                            ((5, 5, 3, 2, 2, 1), 300)):
            needs = tuple(tuple(lookups[:size]) for size in sizes)
            wanted = ("TooMany", {"most": 300}) if told > 300 else None
            self.assertEqual(error_of(least_needcost, 3, needs, (1, 2, 3)), wanted)
            self.assertEqual(error_of(needcost_paper, 3, needs, (1, 2, 3)), wanted)
            self.assertEqual(error_of(check_needcost, 3, needs, (1, 2, 3), None), wanted or ("BadPaper", {"part": "form"}))


if __name__ == "__main__":
    unittest.main()
