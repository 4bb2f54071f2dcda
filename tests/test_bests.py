"""fewindexes/bests.py: WORTHS, BEST, its PAPER (points 14, 15, 16)."""

import unittest
from itertools import product

from fewindexes.bests import best_paper, best_sum, best_sums, check_best
from fewindexes.covering import fewest
from fewindexes.demands import bare_lookups
from cases import (THORNS, Oddity, Thorny, are_amounts, are_indexes, bare_by_all, changed, error_of,
                   masks_by_all, reached_masks, served_table, serves_by_fact, some_demands)
from price_cases import rows_of, some_worths

SERVED = {columns: served_table(columns) for columns in (1, 2, 3)}
SMALL = (some_demands(1, (1, 2, 3), 5, 1) + some_demands(2, (1, 2, 4, 6, 9, 12), 40, 2)
         + some_demands(3, (1, 3, 5, 8, 12), 60, 3))
BIG = some_demands(8, (12,), 30, 4) + some_demands(5, (7, 12), 30, 5) + some_demands(4, (12,), 30, 6)
SINGLE = (8, tuple(((), ((column, "up"), (other, "up"))) for column, other in
                   ((0, 1), (0, 2), (1, 0), (1, 2), (2, 0), (2, 1), (3, 0), (4, 0), (5, 0), (6, 0), (7, 0), (7, 1))))


def bests_by_all(demand, worths):
    """Point 14 for K from 1 to 12: of all lots of BARE LOOKUPS that at most so many INDEXES serve the best."""
    bare = bare_by_all(demand, SERVED[demand[0]])
    kinds = set(masks_by_all(demand, SERVED[demand[0]]).values())
    return [max(sum(worth for number, worth in zip(bare, worths) if mask >> number & 1) for mask in reached)
            for reached in reached_masks(kinds, 12)]


class Best(unittest.TestCase):
    def test_beside_all_lots(self):
        for demand in SMALL:
            many = len(bare_by_all(demand, SERVED[demand[0]]))
            for worths in some_worths(many, len(demand[1])):
                told = bests_by_all(demand, worths)
                for k in range(1, 13):
                    self.assertEqual(best_sum(demand, worths, k), told[k - 1], (demand, worths, k))
                self.assertEqual(best_sums(demand, worths), tuple(told[:fewest(demand)]))

    def test_what_one_more_adds(self):
        for demand in SMALL + BIG:
            for worths in some_worths(len(bare_lookups(demand)), 5):
                sums = [0] + [best_sum(demand, worths, k) for k in range(1, 13)]
                added = [after - before for before, after in zip(sums, sums[1:])]
                self.assertEqual(added, sorted(added, reverse=True))
                self.assertEqual(set(sums[fewest(demand):]), {sum(worths)})
                self.assertEqual(best_sums(demand, worths), tuple(sums[1:fewest(demand) + 1]))

    def test_by_hand(self):
        demand = (3, (((), ((0, "up"), (1, "up"))), ((0, 1), ((2, "up"),)), ((0, 2), ()), ((1,), ())))
        self.assertEqual(best_sums(demand, (4, 5, 6, 7)), (12, 18, 22))
        self.assertEqual(best_sums(demand, (4, 0, 6, 7)), (7, 13, 17))
        self.assertEqual(best_sums(demand, (0, 0, 0, 0)), (0, 0, 0))
        self.assertEqual(best_sum(SINGLE, tuple(range(12)), 3), 11 + 10 + 9)
        self.assertEqual(best_sums(SINGLE, (1,) * 12), tuple(range(1, 13)))
        # the best one alone is not among the best two: 0 to 3 fit so that each goes with one of the others
        chain = (4, (((0,), ()), ((0, 1), ()), ((0, 1, 2), ()), ((0, 1, 3), ()), ((0, 2), ()), ((2,), ())))
        self.assertEqual(best_sums(chain, (1, 9, 9, 1, 1, 1)), (19, 22))
        # of two LOOKUPS of which each is WITHIN the other one only the first one has a WORTH
        self.assertEqual(best_sum((1, (((), ((0, "down"),)), ((), ((0, "up"),)))), (5,), 1), 5)

    def test_the_told_paper_holds(self):
        for demand in SMALL + BIG + [SINGLE]:
            bare = bare_lookups(demand)
            for worths in some_worths(len(bare), len(demand[1])):
                for k in (1, 2, 3, 5, fewest(demand), 12):
                    paper = best_paper(demand, worths, k)
                    self.assertEqual(check_best(demand, worths, k, paper), best_sum(demand, worths, k))
                    self.proved(demand, bare, worths, k, paper)

    def proved(self, demand, bare, worths, k, paper):
        """The words of point 15, with SERVES and fit by their Facts."""
        indexes, toll, rebates = paper
        self.assertLessEqual(len(indexes), k)
        self.assertTrue(are_amounts((toll,), 1) and are_amounts(rebates, len(bare)))
        lookups = [demand[1][number] for number in bare]
        beyond = [max(0, worth - rebate) for worth, rebate in zip(worths, rebates)]
        for row in rows_of(lookups):
            self.assertLessEqual(sum(beyond[at] for at in row), toll)
        served = [worth for worth, lookup in zip(worths, lookups)
                  if any(serves_by_fact(index, lookup) for index in indexes)]
        self.assertEqual(sum(served), k * toll + sum(rebates))


class CheckBest(unittest.TestCase):
    DEMAND = (3, (((), ((0, "up"), (1, "up"))), ((0, 1), ((2, "up"),)), ((0, 2), ()), ((1,), ())))
    WORTHS = (4, 5, 6, 7)
    LONG, SIDE, TURN = ((0, "up"), (1, "up"), (2, "up")), ((2, "up"), (0, "up")), ((1, "up"), (0, "up"), (2, "up"))

    def part(self, paper, k=2):
        name, fields = error_of(check_best, self.DEMAND, self.WORTHS, k, paper)
        self.assertEqual(name, "BadPaper")
        return fields["part"]

    def test_right_ones(self):
        for rebates in ((0, 3, 0, 3), (0, 5, 0, 1), (0, 4, 0, 2)):
            for indexes in ((self.TURN, self.SIDE), (self.SIDE, self.TURN)):
                self.assertEqual(check_best(self.DEMAND, self.WORTHS, 2, (indexes, 6, rebates)), 18)
        self.assertEqual(check_best(self.DEMAND, self.WORTHS, 3, ((self.TURN, self.SIDE, self.LONG), 0, (4, 5, 6, 7))),
                         22)
        self.assertEqual(check_best(self.DEMAND, self.WORTHS, 3, ((self.TURN, self.SIDE, self.LONG), 4, (0, 5, 2, 3))),
                         22)
        self.assertEqual(check_best(self.DEMAND, self.WORTHS, 1, ((self.TURN,), 12, (0, 0, 0, 0))), 12)

    def test_fewer_indexes_than_k(self):
        three = (self.TURN, self.SIDE, self.LONG)
        for k in range(3, 13):
            self.assertEqual(check_best(self.DEMAND, self.WORTHS, k, (three, 0, (4, 5, 6, 7))), 22)
        self.assertEqual(check_best(self.DEMAND, self.WORTHS, 12, (three * 4, 0, (4, 5, 6, 7))), 22)
        self.assertEqual(check_best(self.DEMAND, (0, 0, 0, 0), 1, ((), 0, (0, 0, 0, 0))), 0)
        self.assertEqual(self.part((three * 4, 0, (4, 5, 6, 7)), 11), "indexes")
        self.assertEqual(self.part((three, 0, (4, 5, 6, 7))), "indexes")

    def test_form(self):
        for paper in (None, 0, True, "abc", (), [], {}, ((), 0), ((), 0, (), ()), [(), 0, ()], Oddity(), Thorny()):
            self.assertEqual(self.part(paper), "form")

    def test_each_part_where_it_is_the_first(self):
        indexes, toll, rebates = (self.TURN, self.SIDE), 6, (0, 3, 0, 3)
        for wrong in (None, 0, True, "x", [], {}, indexes * 2, [*indexes], (self.TURN, ()), (self.TURN, None),
                      (((3, "up"),),), Oddity(), Thorny(), (Oddity(),), (Thorny(), self.TURN)):
            for others in ((toll, rebates), (None, None)):
                self.assertEqual(self.part((wrong, *others)), "indexes")
        for wrong in (None, True, False, "6", (), [], -1, {}, b"6", Oddity(), Thorny()):
            for others in (rebates, None):
                self.assertEqual(self.part((indexes, wrong, others)), "toll")
        for wrong in (None, 0, True, "x", [], {}, (), rebates[:3], rebates + (0,), (0, 3, 0, -1), (False, 3, 0, 3),
                      [*rebates], (None, 3, 0, 3), Oddity(), Thorny(), (0, Oddity(), 0, 3), (0, 3, 0, Thorny())):
            for other in (toll, 0):
                self.assertEqual(self.part((indexes, other, wrong)), "rebates")
        for wrong in ((5, rebates), (0, rebates), (6, (0, 2, 0, 3)), (6, (0, 3, 0, 2)), (6, (9, 3, 9, 2))):
            for who in (indexes, ()):
                self.assertEqual(self.part((who, *wrong)), "rows")
        for wrong in ((indexes, 7, rebates), (indexes, 6, (1, 3, 0, 3)), (indexes, 6, (0, 3, 0, 4)), ((), 6, rebates),
                      ((self.TURN,), 6, rebates), (indexes[1:], 6, rebates), (indexes, 10 ** 59, rebates),
                      (indexes, 6, (0, 3, 10 ** 59, 3))):
            self.assertEqual(self.part(wrong), "sum")

    def test_a_rebate_above_the_worth_does_not_pay_for_others(self):
        # what WORTHS are more than REBATES is 0 where they are less
        demand, worths = (2, (((0,), ()), ((0, 1), ()))), (2, 8)
        both = (((0, "up"), (1, "up")),)
        self.assertEqual(check_best(demand, worths, 1, (both, 8, (2, 0))), 10)
        self.assertEqual(error_of(check_best, demand, worths, 1, (both, 4, (6, 0))), ("BadPaper", {"part": "rows"}))

    def due(self, demand, worths, k, paper):
        """By the definitions: the part that is due of a PAPER, or None of one that holds."""
        if type(paper) is not tuple or len(paper) != 3:
            return "form"
        indexes, toll, rebates = paper
        served = SERVED[demand[0]]
        if not are_indexes(indexes, demand[0], k):
            return "indexes"
        if not are_amounts((toll,), 1):
            return "toll"
        bare = bare_by_all(demand, served)
        if not are_amounts(rebates, len(bare)):
            return "rebates"
        beyond = {number: max(0, worth - rebate) for number, worth, rebate in zip(bare, worths, rebates)}
        for mask in masks_by_all(demand, served).values():
            if sum(beyond[number] for number in bare if mask >> number & 1) > toll:
                return "rows"
        best = sum(worth for number, worth in zip(bare, worths) if served[demand[1][number]] & set(indexes))
        return None if best == k * toll + sum(rebates) else "sum"

    def test_changed_papers(self):
        for at, demand in enumerate(SMALL[5:45:4] + SMALL[45::7]):
            worths = some_worths(len(bare_by_all(demand, SERVED[demand[0]])), at)[at % 7]
            k = at % 3 + 1
            paper = best_paper(demand, worths, k)
            for wrong in changed(paper, THORNS):
                part = self.due(demand, worths, k, wrong)
                told = error_of(check_best, demand, worths, k, wrong)
                self.assertEqual(told, None if part is None else ("BadPaper", {"part": part}), wrong)
            self.assertIsNone(self.due(demand, worths, k, paper))

    def test_whatever_holds_is_the_best(self):
        demand, worths = (2, (((), ((0, "up"),)), ((0,), ((1, "up"),)), ((1,), ()))), (3, 2)
        best = bests_by_all(demand, worths)
        self.assertEqual(bare_by_all(demand, SERVED[2]), [1, 2])
        for k, indexes in ((1, (((0, "up"), (1, "up")),)), (1, (((1, "up"),),)), (2, (((0, "up"), (1, "up")), ((1, "up"),)))):
            for toll, one, other in product(range(6), repeat=3):
                paper = (indexes, toll, (one, other))
                part = self.due(demand, worths, k, paper)
                told = error_of(check_best, demand, worths, k, paper)
                self.assertEqual(told, None if part is None else ("BadPaper", {"part": part}), paper)
                if part is None:
                    self.assertEqual(check_best(demand, worths, k, paper), best[k - 1])


class Refused(unittest.TestCase):
    DEMAND = (2, (((0,), ()), ((0, 1), ()), ((1,), ())))

    def calls(self):
        yield best_sum, (1,)
        yield best_sums, ()
        yield best_paper, (1,)
        yield check_best, (1, "wrong")

    def test_demand(self):
        for call, rest in self.calls():
            for demand, part in ((None, "form"), ((9, ()), "columns"), ((1, ()), "lookups"), ((1, (None,)), 0)):
                self.assertEqual(error_of(call, demand, "wrong", *rest), ("BadDemand", {"part": part}))

    def test_worths(self):
        for call, rest in self.calls():
            for worths in (None, 0, True, "123", [1, 2, 3], {}, (), (1, 2), (1, 2, 3, 4), (1, 2, -1), (1, 1001, 2),
                           (True, 1, 1), (1, 1, False), (1, None, 1), (1, "2", 3), ((1,), 2, 3), Oddity(), Thorny(),
                           (Oddity(), 1, 1), (1, 1, Thorny())):
                kind, fields = error_of(call, self.DEMAND, worths, *(("wrong",) if rest else ()), *rest[1:])
                self.assertEqual(kind, "BadWorths")
                self.assertIs(fields["given"], worths)
        # a WORTH for each BARE one, not for each one
        demand = (1, (((), ((0, "down"),)), ((), ((0, "up"),)), ((0,), ())))
        self.assertEqual(error_of(best_sum, demand, (1, 1, 1), 1), ("BadWorths", {"given": (1, 1, 1)}))
        self.assertEqual(best_sum(demand, (1,), 1), 1)
        self.assertEqual(best_sum(self.DEMAND, (0, 1000, 1000), 12), 2000)

    def test_k(self):
        for call, rest in ((best_sum, ()), (best_paper, ()), (check_best, ("wrong",))):
            for k in (0, 13, -1, True, False, None, "1", (), (1,), [], 10 ** 59, Oddity(), Thorny()):
                kind, fields = error_of(call, self.DEMAND, (1, 2, 3), k, *rest)
                self.assertEqual(kind, "BadNumber")
                self.assertIs(fields["given"], k)
            for k in (1, 12):
                told = error_of(call, self.DEMAND, (1, 2, 3), k, *rest)
                self.assertEqual(told, ("BadPaper", {"part": "form"}) if rest else None)


if __name__ == "__main__":
    unittest.main()
