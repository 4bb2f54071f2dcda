"""fewindexes/stock.py: STOCK, LOST, IDLE, in, TRIMMED, CHANGES (points 18, 19)."""

import unittest
from itertools import combinations
from random import Random

from fewindexes.covering import fewest
from fewindexes.stock import (add_paper, best_change, check_add, is_idle, is_in, least_add, lost, trimmed)
from cases import (THORNS, Oddity, Thorny, all_indexes, are_indexes, changed, error_of, fewest_by_all_indexes,
                   served_table, some_demands)
from stock_cases import left_of, lost_by_all, some_stocks

SERVED = {columns: served_table(columns) for columns in (1, 2, 3)}
SMALL = (some_demands(1, (1, 2, 3), 5, 1) + some_demands(2, (1, 2, 4, 6, 9), 30, 2)
         + some_demands(3, (1, 3, 5, 8, 12), 60, 3))
BIG = some_demands(8, (12,), 20, 4) + some_demands(4, (12,), 20, 6)


def added_by_all(demand, stock):
    """The fewest that come, by trying all INDEXES."""
    left = left_of(demand, stock)
    return fewest_by_all_indexes(left, SERVED[demand[0]]) if left[1] else 0


class Lost(unittest.TestCase):
    def test_beside_the_fact(self):
        for at, demand in enumerate(SMALL + BIG):
            for stock in some_stocks(demand[0], demand, at):
                told = lost_by_all(demand, stock)
                self.assertEqual(lost(demand, stock), told)
                for number in range(len(stock)):
                    without = lost_by_all(demand, stock[:number] + stock[number + 1:])
                    self.assertIs(is_idle(demand, stock, number), without == told)

    def test_by_hand(self):
        demand = (2, (((), ((0, "up"), (1, "up"))), ((0,), ()), ((0, 1), ()), ((1,), ())))
        one, both, turned = ((0, "up"),), ((0, "up"), (1, "up")), ((0, "down"), (1, "down"))
        self.assertEqual(lost(demand, ()), (0, 1, 2, 3))
        self.assertEqual(lost(demand, (one,)), (0, 2, 3))
        self.assertEqual(lost(demand, (turned, one, both)), (3,))
        # each of two that serve the same is IDLE, for without it alone the other one is there
        self.assertEqual([is_idle(demand, (turned, one, both), number) for number in range(3)], [True, True, True])
        self.assertEqual([is_idle(demand, (one, both), number) for number in range(2)], [True, False])
        self.assertEqual([is_idle(demand, (one, ((1, "up"),)), number) for number in range(2)], [False, False])

    def test_number(self):
        demand, stock = (2, (((0,), ()),)), (((0, "up"),), ((1, "up"),))
        for number in (-1, 2, True, False, None, "0", (), (0,), [], {}, 10 ** 59, Oddity(), Thorny()):
            kind, fields = error_of(is_idle, demand, stock, number)
            self.assertEqual(kind, "BadNumber")
            self.assertIs(fields["given"], number)
        for number in (0, 1, -1, None):
            self.assertEqual(error_of(is_idle, demand, (), number), ("BadNumber", {"given": number}))
        self.assertIs(is_idle(demand, stock, 0), False)
        self.assertIs(is_idle(demand, stock, 1), True)

    def test_stock(self):
        demand = (2, (((0,), ()),))
        one, two, three = ((0, "down"),), ((0, "up"),), ((1, "up"),)
        nine = tuple(all_indexes(2)[:1]) * 9
        wrong = [(whole, None) for whole in (None, 0, True, "x", [], [one], {}, nine, Oddity(), Thorny())]
        wrong += [((thing,), 0) for thing in (None, 0, True, "x", (), [], {}, [(0, "up")], ((2, "up"),), ((True, "up"),),
                                              ((0, "up"),) * 2, ((0, "Up"),), (0, "up"), Oddity(), Thorny(), (Thorny(),))]
        wrong += [((one, thing, None), 1) for thing in (None, (), one, ((2, "up"),), Oddity(), Thorny(), [(0, "up")])]
        wrong += [((two, one), 1), ((one, two, two), 2), ((one, three, two), 2), ((None, None), 0), ((one, None, one), 1)]
        for stock, number in wrong:
            for call, rest in ((lost, ()), (is_idle, ("wrong",)), (least_add, ()), (add_paper, ()),
                               (check_add, ("wrong",)), (best_change, ())):
                self.assertEqual(error_of(call, demand, stock, *rest), ("BadStock", {"number": number}), stock)
                self.assertEqual(error_of(call, (2, ()), stock, *rest), ("BadDemand", {"part": "lookups"}))
        eight = tuple(sorted(all_indexes(2))[:8])
        self.assertEqual(len(eight), 8)
        self.assertIsNone(error_of(lost, demand, eight))


class In(unittest.TestCase):
    def test_beside_what_all_lookups_say(self):
        for columns in (1, 2, 3):
            served = {}
            for lookup, indexes in SERVED[columns].items():
                for index in indexes:
                    served.setdefault(index, set()).add(lookup)
            for one in all_indexes(columns):
                for other in all_indexes(columns):
                    self.assertIs(is_in(columns, one, other), served[one] <= served[other], (one, other))

    def test_by_hand(self):
        index = ((2, "up"), (0, "down"), (1, "up"))
        for one, told in ((index, True), (index[:1], True), (index[:2], True), (((2, "down"),), True),
                          (((2, "down"), (0, "up")), True), (((2, "up"), (0, "up")), False), (((0, "down"),), False),
                          (index[1:], False), (((2, "down"), (0, "up"), (1, "down"), (3, "up")), False)):
            self.assertIs(is_in(4, one, index), told, one)
        self.assertIs(is_in(4, index, index[:2]), False)

    def test_errors_in_turn(self):
        self.assertEqual(error_of(is_in, 0, None, None), ("BadNumber", {"given": 0}))
        for thing in (None, 0, "x", (), [], ((1, "up"),), Oddity(), Thorny()):
            for one, other in ((thing, "wrong"), (((0, "up"),), thing)):
                kind, fields = error_of(is_in, 1, one, other)
                self.assertEqual(kind, "BadIndex")
                self.assertIs(fields["given"], thing)


class Trimmed(unittest.TestCase):
    def test_beside_all_first_steps(self):
        for demand in SMALL[::3]:
            for index in all_indexes(demand[0]):
                served = [lookup for lookup in demand[1] if index in SERVED[demand[0]][lookup]]
                right = [index[:many] for many in range(1, len(index) + 1)
                         if all(index[:many] in SERVED[demand[0]][lookup] for lookup in served)]
                self.assertEqual(trimmed(demand, index), right[0], (demand, index))

    def test_by_hand(self):
        index = tuple((column, "up") for column in range(8))
        self.assertEqual(trimmed((8, (((7,), ()),)), index), index[:1])
        self.assertEqual(trimmed((8, (((0, 1), ()), ((0, 1, 2), ()), ((1,), ()))), index), index[:3])
        self.assertEqual(trimmed((8, (((0, 1), ((2, "down"), (3, "down"))),)), index), index[:4])
        self.assertEqual(trimmed((8, ((tuple(range(8)), ()),)), index), index)

    def test_errors_in_turn(self):
        self.assertEqual(error_of(trimmed, (1, ()), None), ("BadDemand", {"part": "lookups"}))
        for index in (None, (), ((1, "up"),), [(0, "up")], Oddity(), Thorny()):
            kind, fields = error_of(trimmed, (1, (((0,), ()),)), index)
            self.assertEqual(kind, "BadIndex")
            self.assertIs(fields["given"], index)


class Add(unittest.TestCase):
    def test_beside_all(self):
        for at, demand in enumerate(SMALL):
            for stock in some_stocks(demand[0], demand, at + 100):
                many = added_by_all(demand, stock)
                self.assertEqual(least_add(demand, stock), many)
                paper = add_paper(demand, stock)
                self.assertEqual(check_add(demand, stock, paper), many)
                self.assertIsNone(self.due(demand, stock, paper))
                if not lost_by_all(demand, stock):
                    self.assertEqual(paper, ((), ()))

    def test_big_ones(self):
        for at, demand in enumerate(BIG):
            for stock in some_stocks(demand[0], demand, at + 200):
                left = left_of(demand, stock)
                many = fewest(left) if left[1] else 0
                self.assertEqual(least_add(demand, stock), many)
                indexes, numbers = add_paper(demand, stock)
                self.assertEqual(check_add(demand, stock, (indexes, numbers)), many)
                self.assertEqual(len(indexes), many)
                self.assertEqual(lost_by_all(demand, stock + indexes), ())
                self.assertTrue(set(numbers) <= set(lost_by_all(demand, stock)))

    def test_none_is_lost(self):
        demand, stock = (2, (((0,), ()), ((0, 1), ()))), (((0, "up"), (1, "up")),)
        self.assertEqual(least_add(demand, stock), 0)
        self.assertEqual(add_paper(demand, stock), ((), ()))
        self.assertEqual(check_add(demand, stock, ((), ())), 0)
        self.assertEqual(error_of(check_add, demand, stock, (stock, ())), ("BadPaper", {"part": "numbers"}))
        self.assertEqual(error_of(check_add, demand, stock, (stock, (0,))), ("BadPaper", {"part": "numbers"}))
        self.assertEqual(error_of(check_add, demand, stock, ((), (0,))), ("BadPaper", {"part": "numbers"}))

    def due(self, demand, stock, paper):
        """By the definitions: the part that is due of a PAPER, or None of one that holds."""
        if type(paper) is not tuple or len(paper) != 2:
            return "form"
        indexes, numbers = paper
        served, gone = SERVED[demand[0]], lost_by_all(demand, stock)
        if not are_indexes(indexes, demand[0]) or not all(served[demand[1][at]] & set(indexes) for at in gone):
            return "add"
        lots = [lot for many in range(len(gone) + 1) for lot in combinations(gone, many)
                if not any(served[demand[1][one]] & served[demand[1][other]] for one, other in combinations(lot, 2))]
        if repr(numbers) not in set(map(repr, lots)) or len(numbers) != len(indexes):
            return "numbers"
        return None

    def test_changed_papers(self):
        for at, demand in enumerate(SMALL[5:35:4] + SMALL[35::9]):
            stock = some_stocks(demand[0], demand, at)[at % 4]
            paper = add_paper(demand, stock)
            twice = (paper[0] * 2, paper[1])
            for wrong in (paper, twice, *changed(paper, THORNS)):
                part = self.due(demand, stock, wrong)
                told = error_of(check_add, demand, stock, wrong)
                self.assertEqual(told, None if part is None else ("BadPaper", {"part": part}), wrong)

    def test_any_number_of_indexes(self):
        # more than twelve are looked at, too: the numbers are what is wrong then
        demand = (2, (((0,), ()), ((1,), ())))
        one, other = ((0, "up"),), ((1, "up"),)
        self.assertEqual(check_add(demand, (), ((one, other), (0, 1))), 2)
        self.assertEqual(error_of(check_add, demand, (), ((one, other) * 7, (0, 1))), ("BadPaper", {"part": "numbers"}))
        self.assertEqual(error_of(check_add, demand, (), ((one,) * 14, (0, 1))), ("BadPaper", {"part": "add"}))
        self.assertEqual(check_add(demand, (other,), ((one,), (0,))), 1)
        self.assertEqual(error_of(check_add, demand, (other,), ((one,), (1,))), ("BadPaper", {"part": "numbers"}))


class Change(unittest.TestCase):
    def tried(self, demand, stock):
        """All KEEPs: of those with the fewest in all the longest ones, the first of them."""
        totals = {}
        for many in range(len(stock) + 1):
            for keep in combinations(range(len(stock)), many):
                totals[keep] = many + added_by_all(demand, tuple(stock[number] for number in keep))
        least = min(totals.values())
        return least, min((-len(keep), keep) for keep, total in totals.items() if total == least)[1]

    def held(self, demand, stock):
        keep, add = best_change(demand, stock)
        self.assertTrue(all(type(number) is int for number in keep))
        self.assertEqual(keep, tuple(sorted(set(keep) & set(range(len(stock))))))
        self.assertIs(type(add), tuple)
        self.assertEqual(lost_by_all(demand, tuple(stock[number] for number in keep) + add), ())
        self.assertEqual(len(keep) + len(add), fewest(demand))
        return keep, add

    def test_beside_all_keeps(self):
        for at, demand in enumerate(SMALL):
            for stock in some_stocks(demand[0], demand, at + 300)[:5]:
                keep, add = self.held(demand, stock)
                self.assertTrue(are_indexes(add, demand[0]))
                self.assertEqual(self.tried(demand, stock), (len(keep) + len(add), keep), (demand, stock))

    def test_eight_indexes(self):
        for at, demand in enumerate(BIG):
            for stock in some_stocks(demand[0], demand, at + 400):
                keep, _ = self.held(demand, stock)
                for many in range(len(keep), min(len(stock), len(keep) + 1) + 1):
                    for other in combinations(range(len(stock)), many):
                        if many > len(keep) or other < keep:
                            left = left_of(demand, tuple(stock[number] for number in other))
                            total = many + (fewest(left) if left[1] else 0)
                            self.assertGreater(total, fewest(demand))

    def test_by_hand(self):
        demand = (3, (((), ((0, "up"), (1, "up"))), ((0, 1), ((2, "up"),)), ((0, 2), ()), ((1,), ())))
        one, turn, side = ((0, "up"), (1, "up")), ((1, "up"), (0, "up"), (2, "up")), ((2, "up"), (0, "up"))
        self.assertEqual(best_change(demand, ())[0], ())
        self.assertEqual(best_change(demand, (one, turn, side)), ((0, 1, 2), ()))
        # with both of these two more would have to come, four in all
        keep, add = best_change(demand, (one, ((1, "up"), (2, "up"))))
        self.assertEqual((keep, len(add)), ((0,), 2))
        # an INDEX that would make them more is not kept, though it serves
        keep, add = best_change((2, (((0,), ()), ((0, 1), ()))), (((0, "up"),),))
        self.assertEqual((keep, len(add)), ((), 1))
        # nor is one that serves nothing
        keep, add = best_change((2, (((0,), ()),)), (((0, "down"),), ((0, "up"),), ((1, "up"),)))
        self.assertEqual((keep, add), ((0,), ()))


if __name__ == "__main__":
    unittest.main()
