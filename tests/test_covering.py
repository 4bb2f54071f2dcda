"""fewindexes/covering.py: APART, FEWEST, its PAPER (points 9, 10)."""

import unittest
from itertools import combinations

from fewindexes.covering import are_apart, check_fewest, fewest, fewest_paper
from fewindexes.demands import bare_lookups
from cases import (Oddity, Thorny, all_lookups, changed, error_of, fewest_by_all_indexes, fit_by_fact, greatest_by_all,
                   lots_by_all, served_table, serves_by_fact, some_demands)

SERVED = {columns: served_table(columns) for columns in (1, 2, 3)}
SMALL = (some_demands(1, (1, 2, 3), 5, 1) + some_demands(2, (1, 2, 4, 6, 9, 12), 40, 2)
         + some_demands(3, (1, 3, 5, 8, 12), 80, 3))
BIG = some_demands(8, (12,), 60, 4) + some_demands(5, (7, 12), 60, 5) + some_demands(4, (12,), 60, 6)
SINGLE = (8, tuple(((), ((column, "up"), (other, "up"))) for column, other in
                   ((0, 1), (0, 2), (1, 0), (1, 2), (2, 0), (2, 1), (3, 0), (4, 0), (5, 0), (6, 0), (7, 0), (7, 1))))
CHAIN = (8, tuple((tuple(range(many)), ()) for many in range(1, 9)))


class Apart(unittest.TestCase):
    def test_beside_all_indexes(self):
        for demand in SMALL:
            served = [SERVED[demand[0]][lookup] for lookup in demand[1]]
            for many in (1, 2, 3):
                for numbers in combinations(range(len(served)), many):
                    apart = not any(served[one] & served[other] for one, other in combinations(numbers, 2))
                    self.assertIs(are_apart(demand, numbers), apart)

    def test_beside_the_fact(self):
        for demand in BIG[::4]:
            lots = set(lots_by_all(demand))
            for many in (1, 2, 3, 4):
                for numbers in combinations(range(len(demand[1])), many):
                    self.assertIs(are_apart(demand, numbers), numbers in lots)

    def test_one_alone_and_twelve(self):
        for number in range(12):
            self.assertTrue(are_apart(SINGLE, (number,)))
        self.assertTrue(are_apart(SINGLE, tuple(range(12))))
        self.assertFalse(are_apart(CHAIN, tuple(range(8))))

    def test_errors_in_turn(self):
        self.assertEqual(error_of(are_apart, None, None), ("BadDemand", {"part": "form"}))
        for numbers in (None, (), (1, 0), (0, 0), (8,), (True,), [0], "0", Oddity(), Thorny(), (Thorny(),)):
            kind, fields = error_of(are_apart, CHAIN, numbers)
            self.assertEqual(kind, "BadNumbers")
            self.assertIs(fields["given"], numbers)


class Fewest(unittest.TestCase):
    def test_beside_all_indexes(self):
        for demand in SMALL:
            self.assertEqual(fewest(demand), fewest_by_all_indexes(demand, SERVED[demand[0]]), demand)

    def test_beside_all_lots(self):
        for demand in SMALL + BIG:
            greatest = greatest_by_all(demand)
            self.assertEqual(fewest(demand), len(greatest[0]), demand)
            # point 9: as many as the most BARE ones, too
            bare = set(bare_lookups(demand))
            self.assertTrue(any(bare.issuperset(lot) for lot in greatest))

    def test_the_told_paper_holds(self):
        for demand in SMALL + BIG + [SINGLE, CHAIN]:
            paper = fewest_paper(demand)
            indexes, numbers = paper
            self.assertEqual(check_fewest(demand, paper), fewest(demand))
            self.assertEqual(len(indexes), fewest(demand))
            self.assertEqual(len(numbers), fewest(demand))
            for lookup in demand[1]:
                self.assertTrue(any(serves_by_fact(index, lookup) for index in indexes))
            self.assertFalse(any(fit_by_fact(demand[1][one], demand[1][other])
                                 for one, other in combinations(numbers, 2)))

    def test_by_hand(self):
        self.assertEqual(fewest(SINGLE), 12)
        self.assertEqual(fewest(CHAIN), 1)
        self.assertEqual(fewest((1, (((), ((0, "down"),)), ((), ((0, "up"),)), ((0,), ())))), 1)
        self.assertEqual(fewest((2, (((), ((0, "down"), (1, "up"))), ((), ((0, "up"), (1, "up")))))), 2)
        # the first one taken greedily would leave three: chains have to be changed about
        demand = (4, (((0,), ()), ((0, 1), ()), ((0, 1, 2), ()), ((0, 1, 3), ()), ((0, 2), ()), ((2,), ())))
        self.assertEqual(fewest(demand), 2)

    def test_errors(self):
        for call, rest in ((fewest, ()), (fewest_paper, ()), (check_fewest, (None,))):
            for demand, part in ((None, "form"), ((9, ()), "columns"), ((1, ()), "lookups"), ((1, (None,)), 0),
                                 ((1, (((0,), ()), ((0,), ()))), 1)):
                self.assertEqual(error_of(call, demand, *rest), ("BadDemand", {"part": part}))


class CheckFewest(unittest.TestCase):
    DEMAND = (3, (((), ((0, "up"), (1, "up"))), ((0, 1), ((2, "up"),)), ((0, 2), ()), ((1,), ())))
    LONG, SIDE, LAST = ((0, "up"), (1, "up"), (2, "up")), ((2, "up"), (0, "up")), ((1, "down"),)

    def part(self, paper, demand=DEMAND):
        name, fields = error_of(check_fewest, demand, paper)
        self.assertEqual(name, "BadPaper")
        return fields["part"]

    def test_right_ones(self):
        right = (self.LONG, self.SIDE, self.LAST)
        self.assertEqual(fewest(self.DEMAND), 3)
        for indexes in (right, right[::-1], (self.SIDE, self.LAST, self.LONG)):
            self.assertEqual(check_fewest(self.DEMAND, (indexes, (0, 2, 3))), 3)

    def test_form(self):
        for paper in (None, 0, True, "ab", (), [], ((self.LONG,),), ((), (), ()), [(), ()], {}, Oddity(), Thorny()):
            self.assertEqual(self.part(paper), "form")

    def test_indexes(self):
        for indexes in (
            None, 0, True, "x", [], {}, (), (self.LONG, self.SIDE), (self.LONG,) * 3, [self.LONG, self.SIDE, self.LAST],
            (self.LONG, self.SIDE, self.LAST, ()), (self.LONG, self.SIDE, self.LAST, None),
            (self.LONG, self.SIDE, self.LAST, ((3, "up"),)), (self.LONG, self.SIDE, self.LAST, ((True, "up"),)),
            (self.LONG, self.SIDE, self.LAST) + (self.LAST,) * 10, Oddity(), Thorny(), (Oddity(),) * 3,
        ):
            for numbers in ((0, 2, 3), (), None):
                self.assertEqual(self.part((indexes, numbers)), "indexes")

    def test_apart(self):
        right = (self.LONG, self.SIDE, self.LAST)
        for numbers in (None, 0, True, "x", [], {}, (), (2, 0, 3), (0, 2, 2), (0, 2, 4), (-1, 2, 3), (False, 2, 3),
                        [0, 2, 3], (0, 1), (0, 1, 3), (1, 3), (0, 1, 2, 3), (0, 2, "3"), Oddity(), Thorny(),
                        (Thorny(), 2, 3)):
            self.assertEqual(self.part((right, numbers)), "apart")
            self.assertEqual(self.part((right + right, numbers)), "apart")

    def test_count(self):
        right = (self.LONG, self.SIDE, self.LAST)
        for numbers in ((0,), (2,), (0, 2), (0, 3), (2, 3), (1, 2)):
            self.assertEqual(self.part((right, numbers)), "count")
        for more in (right + (self.LAST,), right + right, right * 4):
            self.assertEqual(self.part((more, (0, 2, 3))), "count")

    def test_twelve_and_thirteen_indexes(self):
        indexes, numbers = fewest_paper(SINGLE)
        self.assertEqual(check_fewest(SINGLE, (indexes, numbers)), 12)
        self.assertEqual(check_fewest(SINGLE, (indexes[::-1], numbers)), 12)
        self.assertEqual(self.part((indexes + indexes[:1], numbers), SINGLE), "indexes")
        self.assertEqual(self.part((indexes[:1] * 12, numbers), SINGLE), "indexes")
        self.assertEqual(self.part((indexes, numbers[:11]), SINGLE), "count")
        self.assertEqual(self.part((indexes[:11], numbers), SINGLE), "indexes")

    def test_alike_indexes(self):
        demand = (2, (((), ((0, "up"), (1, "up"))), ((0,), ())))
        index = ((0, "up"), (1, "up"))
        self.assertEqual(check_fewest(demand, ((index,), (0,))), 1)
        self.assertEqual(check_fewest(demand, ((index,), (1,))), 1)
        self.assertEqual(self.part(((index, index), (0,)), demand), "count")

    def due(self, demand, paper):
        """By the definitions: the part that is due of a PAPER, or None of one that holds."""
        if type(paper) is not tuple or len(paper) != 2:
            return "form"
        indexes, numbers = paper
        known = {repr(index) for index in set.union(*SERVED[demand[0]].values())}
        if type(indexes) is not tuple or len(indexes) > 12 or not all(repr(index) in known for index in indexes):
            return "indexes"
        if not all(any(serves_by_fact(index, lookup) for index in indexes) for lookup in demand[1]):
            return "indexes"
        if repr(numbers) not in {repr(lot) for lot in lots_by_all(demand)}:
            return "apart"
        return None if len(indexes) == len(numbers) else "count"

    def test_changed_papers(self):
        demands = [(2, pair) for pair in combinations(all_lookups(2)[::3], 2)] + SMALL[50:60]
        for demand in demands:
            paper = fewest_paper(demand)
            for wrong in (paper, *changed(paper)):
                part = self.due(demand, wrong)
                told = error_of(check_fewest, demand, wrong)
                self.assertEqual(told, None if part is None else ("BadPaper", {"part": part}), wrong)


if __name__ == "__main__":
    unittest.main()
