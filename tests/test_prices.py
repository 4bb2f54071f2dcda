"""fewindexes/prices.py: COST, LEAST COST, its PAPER (points 12, 13, 17)."""

import unittest
from random import Random

from fewindexes.covering import fewest
from fewindexes.demands import bare_lookups
from fewindexes.fitting import is_ahead
from fewindexes.prices import check_cost, cost_of, cost_paper, least_cost
from cases import (THORNS, Oddity, Thorny, ahead_by_all, are_amounts, are_indexes, bare_by_all, changed, error_of,
                   served_table, some_demands)
from price_cases import least_by_all, price, some_prices

SERVED = {columns: served_table(columns) for columns in (1, 2, 3)}
SMALL = (some_demands(1, (1, 2, 3), 5, 1) + some_demands(2, (1, 2, 4, 6, 9, 12), 40, 2)
         + some_demands(3, (1, 3, 5, 8, 12), 60, 3))
BIG = some_demands(8, (12,), 40, 4) + some_demands(5, (7, 12), 40, 5) + some_demands(4, (12,), 40, 6)


class CostOf(unittest.TestCase):
    def test_by_hand(self):
        prices = (5, 0, 1000)
        self.assertEqual(cost_of(3, prices, ()), 0)
        self.assertEqual(cost_of(3, prices, (((0, "up"),),)), 5)
        self.assertEqual(cost_of(3, prices, (((0, "up"), (2, "down")),)), 1005)
        self.assertEqual(cost_of(3, prices, (((0, "up"),), ((0, "up"),), ((0, "down"),))), 15)
        self.assertEqual(cost_of(3, prices, (((2, "up"), (1, "up"), (0, "up")), ((1, "down"),), ((0, "up"),))), 1010)
        self.assertEqual(cost_of(1, (3,), (((0, "up"),),) * 12), 36)

    def test_by_own_sums(self):
        source = Random(8)
        for demand in BIG[:30]:
            columns = demand[0]
            for prices in some_prices(columns, 3):
                indexes = tuple(tuple((column, source.choice(("up", "down")))
                                      for column in source.sample(range(columns), source.randint(1, columns)))
                                for _ in range(source.randint(0, 12)))
                wanted = 0
                for index in indexes:
                    for column, _ in index:
                        wanted += prices[column]
                self.assertEqual(cost_of(columns, prices, indexes), wanted)

    def test_prices(self):
        for call, rest in ((cost_of, (2,)), (least_cost, ((2, (((0,), ()),)),)), (cost_paper, ((2, (((0,), ()),)),)),
                           (check_cost, ((2, (((0,), ()),)),))):
            behind = ("wrong",) if call in (cost_of, check_cost) else ()
            for prices in (None, 0, "12", [1, 2], (), (1,), (1, 2, 3), (1, -1), (1, 1001), (True, 1), (1, False),
                           (1, "2"), (None, 1), {}, ((1,), 2), (Oddity(), 1), (1, Thorny()), Oddity(), Thorny()):
                kind, fields = error_of(call, *rest, prices, *behind)
                self.assertEqual(kind, "BadPrices")
                self.assertIs(fields["given"], prices)
        for call, behind in ((least_cost, ()), (cost_paper, ()), (check_cost, ("wrong",))):
            for demand, part in ((None, "form"), ((9, ()), "columns"), ((1, ()), "lookups"), ((1, (None,)), 0)):
                self.assertEqual(error_of(call, demand, "wrong", *behind), ("BadDemand", {"part": part}))
        self.assertEqual(error_of(cost_of, 9, None, None), ("BadNumber", {"given": 9}))
        self.assertEqual(error_of(cost_of, 1, (1,), None), ("BadIndex", {"given": None}))

    def test_indexes(self):
        one = ((0, "up"),)
        for whole in (None, 0, True, "x", [], [one], {}, (one,) * 13, Oddity(), Thorny()):
            kind, fields = error_of(cost_of, 2, (1, 2), whole)
            self.assertEqual(kind, "BadIndex")
            self.assertIs(fields["given"], whole)
        for wrong in (None, 0, True, "x", (), [], {}, [(0, "up")], ((2, "up"),), ((True, "up"),), ((0, "up"),) * 2,
                      ((0, "Up"),), (0, "up"), Oddity(), Thorny(), (Thorny(),)):
            for indexes in ((wrong,), (one, wrong), (one, wrong, ()), (wrong, None), (one,) * 11 + (wrong,)):
                kind, fields = error_of(cost_of, 2, (1, 2), indexes)
                self.assertEqual(kind, "BadIndex")
                self.assertIs(fields["given"], wrong)
        self.assertEqual(cost_of(2, (1, 2), (one,) * 12), 12)


class LeastCost(unittest.TestCase):
    def test_beside_all_indexes(self):
        for demand in SMALL:
            for prices in some_prices(demand[0], len(demand[1])):
                self.assertEqual(least_cost(demand, prices), least_by_all(demand, prices, SERVED[demand[0]]), (demand, prices))

    def test_by_hand(self):
        demand = (3, (((), ((0, "up"), (1, "up"))), ((0, 1), ((2, "up"),)), ((0, 2), ()), ((1,), ())))
        # (0, 1, 2) and (2, 0) and (1), whatever the prices are
        self.assertEqual(least_cost(demand, (1, 1, 1)), 6)
        self.assertEqual(least_cost(demand, (10, 100, 1000)), 1110 + 1010 + 100)
        self.assertEqual(least_cost((8, tuple((tuple(range(many)), ()) for many in range(1, 9))), (1000,) * 8), 8000)
        # one of two may go along with the third one: the dearer one does
        demand = (3, (((0,), ()), ((0, 1), ()), ((1,), ())))
        self.assertEqual(least_cost(demand, (10, 3, 0)), 13 + 3)
        self.assertEqual(least_cost(demand, (3, 10, 0)), 13 + 3)

    def test_the_told_paper_holds_and_is_of_the_fewest(self):
        for demand in SMALL + BIG:
            for prices in some_prices(demand[0], len(demand[1])):
                paper = cost_paper(demand, prices)
                cost = cost_of(demand[0], prices, paper[0])
                self.assertEqual(check_cost(demand, prices, paper), cost)
                self.assertEqual(least_cost(demand, prices), cost)
                self.assertEqual(len(paper[0]), fewest(demand))
                self.told(demand, prices, paper)

    def told(self, demand, prices, paper):
        """The words of point 13, by what the package tells of BARE and AHEAD."""
        _, outs, ins = paper
        bare = bare_lookups(demand)
        self.assertTrue(are_amounts(outs, len(bare)) and are_amounts(ins, len(bare)))
        total = 0
        for place, number in enumerate(bare):
            equal, sort = demand[1][number]
            last = price(prices, [*equal, *[column for column, _ in sort]])
            total += last - outs[place] - ins[place]
            for at, other in enumerate(bare):
                if is_ahead(demand, number, other):
                    self.assertGreaterEqual(outs[place] + ins[at], last)
        self.assertEqual(total, cost_of(demand[0], prices, paper[0]))

    def test_prices_of_one_count_the_steps(self):
        for demand in SMALL + BIG:
            prices = (1,) * demand[0]
            steps = sum(len(index) for index in cost_paper(demand, prices)[0])
            self.assertEqual(least_cost(demand, prices), steps)
            if demand[0] < 4:
                self.assertEqual(steps, least_by_all(demand, prices, SERVED[demand[0]]))


class CheckCost(unittest.TestCase):
    DEMAND = (3, (((), ((0, "up"), (1, "up"))), ((0, 1), ((2, "up"),)), ((0, 2), ()), ((1,), ())))
    PRICES = (10, 100, 1000)
    LONG, SIDE, LAST = ((0, "up"), (1, "up"), (2, "up")), ((2, "up"), (0, "up")), ((1, "down"),)
    RIGHT = ((LONG, SIDE, LAST), (110, 0, 0, 0), (0, 0, 0, 0))

    def part(self, paper, demand=DEMAND, prices=PRICES):
        name, fields = error_of(check_cost, demand, prices, paper)
        self.assertEqual(name, "BadPaper")
        return fields["part"]

    def test_right_ones(self):
        # the first and the last one both could be AHEAD of the second one: it takes one of them along
        for indexes in (self.RIGHT[0], self.RIGHT[0][::-1], (self.SIDE, self.LAST, self.LONG)):
            self.assertEqual(check_cost(self.DEMAND, self.PRICES, (indexes, (10, 0, 0, 0), (0, 100, 0, 0))), 2220)
        self.assertEqual(check_cost(self.DEMAND, self.PRICES, (self.RIGHT[0], (0, 0, 0, 0), (0, 110, 0, 0))), 2220)
        self.assertEqual(self.part(self.RIGHT), "pairs")

    def test_more_indexes_than_the_fewest(self):
        demand, prices = (2, (((0,), ()), ((0, 1), ()))), (0, 5)
        one, both = ((0, "up"),), ((0, "up"), (1, "up"))
        none = (0, 0)
        self.assertEqual(check_cost(demand, prices, ((both,), none, none)), 5)
        self.assertEqual(check_cost(demand, prices, ((both, one, one), none, none)), 5)
        self.assertEqual(check_cost(demand, prices, ((both,) + (one,) * 11, none, none)), 5)
        self.assertEqual(self.part(((both,) + (one,) * 12, none, none), demand, prices), "indexes")
        self.assertEqual(self.part(((both, both), none, none), demand, prices), "sum")
        self.assertEqual(self.part(((both,), (0, 0, 0), none), demand, prices), "outs")

    def test_form(self):
        for paper in (None, 0, True, "abc", (), [], {}, ((), ()), ((), (), (), ()), [(), (), ()], Oddity(), Thorny()):
            self.assertEqual(self.part(paper), "form")

    def test_each_part_where_it_is_the_first(self):
        indexes, outs, ins = self.RIGHT[0], (10, 0, 0, 0), (0, 100, 0, 0)
        for wrong in (None, 0, True, "x", [], {}, (), indexes[:2], indexes[:2] * 2, [*indexes], indexes + ((),),
                      indexes + (None,), indexes + (((3, "up"),),), indexes + (indexes[0],) * 10, Oddity(), Thorny(),
                      (Oddity(),) * 3):
            for others in ((outs, ins), (None, None)):
                self.assertEqual(self.part((wrong, *others)), "indexes")
        for wrong in (None, 0, True, "x", [], {}, (), outs[:3], outs + (0,), (-1, 0, 0, 0), (10, 0, 0, -1),
                      (True, 0, 0, 0), (10, False, 0, 0), [*outs], (10, None, 0, 0), ("10", 0, 0, 0), Oddity(), Thorny(),
                      (10, Oddity(), 0, 0), (Thorny(), 0, 0, 0)):
            for others in (ins, None):
                self.assertEqual(self.part((indexes, wrong, others)), "outs")
            self.assertEqual(self.part((indexes, outs, wrong)), "ins")
            self.assertEqual(self.part((indexes, (0, 0, 0, 0), wrong)), "ins")
        for wrong in ((9, 0, 0, 0), (0, 0, 0, 0), (9, 9, 9, 99), (0, 10, 10, 10)):
            self.assertEqual(self.part((indexes, wrong, ins)), "pairs")
        for wrong in ((0, 99, 0, 0), (100, 0, 100, 100), (0, 0, 0, 0), (5, 99, 5, 5)):
            self.assertEqual(self.part((indexes, outs, wrong)), "pairs")
        for wrong in (((11, 0, 0, 0), ins), (outs, (0, 101, 0, 0)), ((10, 0, 0, 1), ins), ((10, 0, 1, 0), ins),
                      (outs, (0, 100, 1, 0)), ((10 ** 59, 0, 0, 0), ins)):
            self.assertEqual(self.part((indexes, *wrong)), "sum")
        self.assertEqual(self.part((indexes + indexes[2:], outs, ins)), "sum")
        self.assertEqual(self.part(((((0, "up"), (1, "up"), (2, "up"), ), self.SIDE, ((1, "up"), (0, "up"))), outs, ins)),
                         "sum")

    def due(self, demand, prices, paper):
        """By the definitions: the part that is due of a PAPER, or None of one that holds."""
        if type(paper) is not tuple or len(paper) != 3:
            return "form"
        indexes, outs, ins = paper
        served = SERVED[demand[0]]
        if not are_indexes(indexes, demand[0], 12):
            return "indexes"
        if not all(set(indexes) & served[lookup] for lookup in demand[1]):
            return "indexes"
        bare = bare_by_all(demand, served)
        if not are_amounts(outs, len(bare)):
            return "outs"
        if not are_amounts(ins, len(bare)):
            return "ins"
        last = {number: price(prices, [*demand[1][number][0], *[column for column, _ in demand[1][number][1]]])
                for number in bare}
        for one, other in ahead_by_all(demand, served):
            if outs[bare.index(one)] + ins[bare.index(other)] < last[one]:
                return "pairs"
        cost = sum(price(prices, [column for column, _ in index]) for index in indexes)
        return None if cost + sum(outs) + sum(ins) == sum(last.values()) else "sum"

    def test_changed_papers(self):
        for at, demand in enumerate(SMALL[5:45:4] + SMALL[45::7]):
            prices = some_prices(demand[0], at)[at % 8]
            paper = cost_paper(demand, prices)
            more = (paper[0] + paper[0][:1], *paper[1:])
            less = (paper[0], tuple(max(0, out - 1) for out in paper[1]), tuple(part + 1 for part in paper[2]))
            for wrong in (more, less, *changed(paper, THORNS)):
                part = self.due(demand, prices, wrong)
                told = error_of(check_cost, demand, prices, wrong)
                self.assertEqual(told, None if part is None else ("BadPaper", {"part": part}), wrong)
            self.assertIsNone(self.due(demand, prices, paper))

    def test_whatever_holds_is_the_least(self):
        # all OUTS and INS up to 3 for a small DEMAND, with each of some INDEXES
        demand, prices = (2, (((), ((0, "up"),)), ((0,), ((1, "up"),)), ((1,), ()))), (2, 1)
        one, both, other = ((0, "up"),), ((0, "up"), (1, "up")), ((1, "up"),)
        bare = bare_by_all(demand, SERVED[2])
        for indexes in ((both, other), (one, both, other), (both, both, other), (both, ((1, "up"), (0, "up")))):
            for code in range(4 ** (2 * len(bare))):
                amounts = [code // 4 ** place % 4 for place in range(2 * len(bare))]
                paper = (indexes, tuple(amounts[:len(bare)]), tuple(amounts[len(bare):]))
                part = self.due(demand, prices, paper)
                told = error_of(check_cost, demand, prices, paper)
                self.assertEqual(told, None if part is None else ("BadPaper", {"part": part}), paper)
                if part is None:
                    self.assertEqual(check_cost(demand, prices, paper), least_by_all(demand, prices, SERVED[demand[0]]))


if __name__ == "__main__":
    unittest.main()
