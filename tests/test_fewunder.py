"""fewindexes/fewunder.py: the least number of INDEXES UNDER TELLS, its PAPER (point 23)."""

import unittest
from itertools import combinations

from fewindexes.covering import fewest
from fewindexes.fewunder import check_fewunder, fewest_under, fewunder_paper
from cases import (THORNS, Oddity, Thorny, all_indexes, are_indexes, changed, error_of, fewest_by_all_indexes,
                   some_demands)
from told_cases import fit_under_by_fact, kinds_of_tells, serves_under, served_under, some_tells

SMALL = some_demands(2, (1, 2, 4, 6, 9, 12), 12, 2), some_demands(3, (1, 3, 5, 8, 12), 16, 3)
BIG = some_demands(8, (12,), 12, 4) + some_demands(5, (7, 12), 12, 5) + some_demands(4, (12,), 12, 6)


def lots_under(demand, fit):
    """All lots of numbers no two of which are in fit, a set of pairs of numbers."""
    lots = [()]
    for number in range(len(demand[1])):
        lots += [(*lot, number) for lot in lots if not any((other, number) in fit for other in lot)]
    return lots


def pairs_fitting(tells, demand):
    return {(one, other) for one, other in combinations(range(len(demand[1])), 2)
            if fit_under_by_fact(tells, demand[1][one], demand[1][other])}


class Fewest(unittest.TestCase):
    def told(self):
        """Small DEMANDS with TELLS, and the INDEXES that serve each LOOKUP UNDER them."""
        for columns, demands, kinds in ((2, SMALL[0], kinds_of_tells(2, 2)), (3, SMALL[1], kinds_of_tells(3, 3)[::6])):
            for tells in kinds:
                served = served_under(columns, tells, all_indexes(columns))
                for demand in demands:
                    yield demand, tells, served

    def test_beside_all_indexes(self):
        for demand, tells, served in self.told():
            self.assertEqual(fewest_under(demand, tells), fewest_by_all_indexes(demand, served), (demand, tells))

    def test_beside_all_lots(self):
        for demand, tells, served in self.told():
            fit = {(one, other) for one, other in combinations(range(len(demand[1])), 2)
                   if served[demand[1][one]] & served[demand[1][other]]}
            self.assertEqual(fewest_under(demand, tells), max(map(len, lots_under(demand, fit))), (demand, tells))

    def test_big_ones_beside_all_lots(self):
        for at, demand in enumerate(BIG):
            for tells in some_tells(demand[0], 4, at) + some_tells(demand[0], 3, at + 50, 2):
                lots = lots_under(demand, pairs_fitting(tells, demand))
                self.assertEqual(fewest_under(demand, tells), max(map(len, lots)), (demand, tells))

    def test_without_tells(self):
        for demand in SMALL[0] + SMALL[1] + BIG:
            self.assertEqual(fewest_under(demand, ()), fewest(demand))

    def test_no_greater_with_a_pair_more(self):
        for at, demand in enumerate(SMALL[1] + BIG):
            for tells in some_tells(demand[0], 6, at + 100):
                many = fewest_under(demand, tells)
                for pair in tells:
                    less = tuple(other for other in tells if other != pair)
                    self.assertGreaterEqual(fewest_under(demand, less), many)

    def test_the_told_paper_holds(self):
        for at, demand in enumerate(SMALL[0] + SMALL[1] + BIG):
            for tells in some_tells(demand[0], 6, at + 200):
                indexes, numbers = paper = fewunder_paper(demand, tells)
                many = fewest_under(demand, tells)
                self.assertEqual((len(indexes), len(numbers)), (many, many))
                self.assertEqual(check_fewunder(demand, tells, paper), many)
                self.assertEqual(numbers, tuple(sorted(set(numbers))))
                self.assertFalse(any(fit_under_by_fact(tells, demand[1][one], demand[1][other])
                                     for one, other in combinations(numbers, 2)))
                for lookup in demand[1]:
                    self.assertTrue(any(serves_under(tells, index, lookup) for index in indexes))

    def test_by_hand(self):
        demand = (4, (((), ((0, "up"), (2, "up"))), ((), ((1, "up"), (2, "down"))), ((), ((2, "up"), (0, "up"))),
                      ((0,), ((2, "up"),)), ((1,), ((2, "up"), (3, "down"))), ((3,), ())))
        self.assertEqual(fewest_under(demand, ()), 4)
        self.assertEqual(fewest_under(demand, (((), (3,)), ((0,), (1,)), ((1,), (0,)))), 3)
        self.assertEqual(fewest_under(demand, (((), (0, 1, 2, 3)),)), 1)
        self.assertEqual(fewunder_paper((1, (((0,), ()),)), (((), (0,)),))[1], (0,))

    def test_errors_in_turn(self):
        demand = (2, (((0,), ()), ((1,), ())))
        for call, rest in ((fewest_under, ()), (fewunder_paper, ()), (check_fewunder, ("wrong",))):
            for wrong, part in ((None, "form"), ((9, ()), "columns"), ((1, ()), "lookups"), ((1, (None,)), 0)):
                self.assertEqual(error_of(call, wrong, None, *rest), ("BadDemand", {"part": part}))
            for tells, number in ((None, None), ([], None), ((None,), 0), ((((0,), ()),), 0), ((((0,), (1,)),) * 2, 1),
                                  ((((0,), (2,)),), 0), (Oddity(), None), (Thorny(), None), ((Thorny(),), 0)):
                self.assertEqual(error_of(call, demand, tells, *rest), ("BadTells", {"number": number}))


class CheckFewunder(unittest.TestCase):
    DEMAND = (3, (((), ((0, "up"), (1, "up"))), ((0, 1), ((2, "up"),)), ((0, 2), ()), ((1,), ())))
    TELLS = (((1,), (2,)),)

    def part(self, paper):
        name, fields = error_of(check_fewunder, self.DEMAND, self.TELLS, paper)
        self.assertEqual(name, "BadPaper")
        return fields["part"]

    def test_each_part_where_it_is_the_first(self):
        long, last, side = ((0, "down"), (1, "down")), ((1, "down"),), ((0, "up"), (2, "up"))
        right = (long, last, side)
        self.assertEqual(fewest_under(self.DEMAND, self.TELLS), 3)
        for indexes in (right, right[::-1]):
            self.assertEqual(check_fewunder(self.DEMAND, self.TELLS, (indexes, (0, 2, 3))), 3)
        for paper in (None, 0, True, "ab", (), [], {}, ((),), ((), (), ()), [(), ()], Oddity(), Thorny()):
            self.assertEqual(self.part(paper), "form")
        for wrong in (None, 0, True, "x", [], {}, (), right[:2], right[1:], [*right], (*right, ()), (*right, None),
                      (*right, ((3, "up"),)), Oddity(), Thorny(), (Oddity(),), (Thorny(), *right)):
            for numbers in ((0, 2, 3), None):
                self.assertEqual(self.part((wrong, numbers)), "indexes")
        for wrong in (None, 0, True, "x", [], {}, (), (2, 0, 3), (0, 2, 2), (0, 2, 4), (-1, 2, 3), (False, 2, 3),
                      [0, 2, 3], (0, 2), (0, 1, 2), (0, 1, 2, 3), (0, 2, "3"), (0, 2, None), Oddity(), Thorny(),
                      (Thorny(), 2, 3), (0, Oddity(), 3)):
            self.assertEqual(self.part((right, wrong)), "numbers")
        for more in ((*right, last), right * 5):
            self.assertEqual(self.part((more, (0, 2, 3))), "numbers")

    def due(self, demand, tells, paper, served):
        """By the definitions: the part that is due of a PAPER, or None of one that holds."""
        if type(paper) is not tuple or len(paper) != 2:
            return "form"
        indexes, numbers = paper
        if not are_indexes(indexes, demand[0]) or not all(served[lookup] & set(indexes) for lookup in demand[1]):
            return "indexes"
        fit = {(one, other) for one, other in combinations(range(len(demand[1])), 2)
               if served[demand[1][one]] & served[demand[1][other]]}
        if repr(numbers) not in set(map(repr, lots_under(demand, fit))) or len(numbers) != len(indexes):
            return "numbers"
        return None

    def test_changed_papers(self):
        for at, tells in enumerate(kinds_of_tells(3, 3)[2::8]):
            served = served_under(3, tells, all_indexes(3))
            for demand in SMALL[1][at % 4::4]:
                paper = fewunder_paper(demand, tells)
                for wrong in (paper, (paper[0] * 2, paper[1]), *changed(paper, THORNS)):
                    part = self.due(demand, tells, wrong, served)
                    told = error_of(check_fewunder, demand, tells, wrong)
                    self.assertEqual(told, None if part is None else ("BadPaper", {"part": part}), wrong)


if __name__ == "__main__":
    unittest.main()
