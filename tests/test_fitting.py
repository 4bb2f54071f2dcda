"""fewindexes/fitting.py: LOOKUPS that fit, the PAPERS on it, AHEAD (points 7, 8)."""

import unittest
from itertools import combinations

from fewindexes.demands import bare_lookups
from fewindexes.fitting import check_fit, do_fit, fit_paper, index_for, is_ahead
from cases import (Oddity, Thorny, all_lookups, changed, error_of, fit_by_fact, has_sets, served_sets, served_table,
                   serves_by_fact, some_demands)

SERVED = {columns: served_table(columns) for columns in (1, 2, 3)}
BIG = some_demands(8, (2, 3, 5, 12), 60, 7) + some_demands(5, (2, 4, 12), 60, 8)


def numbers_of(demand, many):
    """All ascending tuples of at most so many numbers."""
    for some in range(1, many + 1):
        yield from combinations(range(len(demand[1])), some)


def pairs(columns, step=1):
    lookups = all_lookups(columns)
    return [(columns, pair) for pair in list(combinations(lookups, 2))[::step]]


class Fitting(unittest.TestCase):
    def held(self, demand, numbers):
        """What is told, held beside all INDEXES."""
        both = set.intersection(*[served_sets(demand, SERVED[demand[0]])[number] for number in numbers])
        self.assertIs(do_fit(demand, numbers), bool(both), (demand, numbers))
        index = index_for(demand, numbers)
        if both:
            self.assertIn(index, both, (demand, numbers))
            self.assertEqual(len(index), min(len(other) for other in both))
        else:
            self.assertIsNone(index)
        paper = fit_paper(demand, numbers)
        self.assertEqual(check_fit(demand, numbers, paper), paper[0])
        self.assertEqual(paper[0] == "fit", bool(both))
        self.proved(demand, numbers, paper)

    def proved(self, demand, numbers, paper):
        """A PAPER holds, by its own words."""
        lookups = demand[1]
        if paper[0] == "fit":
            self.assertEqual(len(paper), 2)
            self.assertTrue(all(serves_by_fact(paper[1], lookups[number]) for number in numbers))
        elif paper[0] == "sets":
            _, one, at, other, place = paper
            first, second = has_sets(lookups[one])[at], has_sets(lookups[other])[place]
            self.assertTrue(one < other and {one, other} <= set(numbers))
            self.assertFalse(first <= second or second <= first)
        else:
            word, one, other, less, more = paper
            self.assertEqual(word, "ways")
            self.assertTrue(one < other and {one, other} <= set(numbers) and less < more)
            ways, theirs = dict(lookups[one][1]), dict(lookups[other][1])
            self.assertNotEqual(ways[less] == ways[more], theirs[less] == theirs[more])

    def test_all_pairs(self):
        for columns in (1, 2, 3):
            for demand in pairs(columns):
                self.held(demand, (0, 1))
        for lookup in all_lookups(3):
            self.held((3, (lookup,)), (0,))

    def test_more_than_two(self):
        lookups = all_lookups(3)
        for step, start in ((3, 0), (5, 1), (7, 2), (11, 3), (10, 60), (1, 0), (1, 78), (2, 80)):
            demand = (3, tuple(lookups[start::step][:12]))
            for numbers in numbers_of(demand, 4):
                self.held(demand, numbers)
        for demand in some_demands(3, (4, 5, 6), 30, 3):
            for numbers in numbers_of(demand, 6):
                self.held(demand, numbers)

    def test_two_fit_by_the_fact(self):
        for demand in pairs(4, 97):
            self.assertIs(do_fit(demand, (0, 1)), fit_by_fact(*demand[1]), demand)

    def test_big_ones(self):
        for demand in BIG:
            for numbers in list(numbers_of(demand, 3)) + [tuple(range(len(demand[1])))]:
                each_two = all(fit_by_fact(demand[1][one], demand[1][other])
                               for one, other in combinations(numbers, 2))
                self.assertIs(do_fit(demand, numbers), each_two)
                paper, index = fit_paper(demand, numbers), index_for(demand, numbers)
                self.assertEqual(check_fit(demand, numbers, paper), paper[0])
                self.assertEqual(paper[0] == "fit", each_two)
                self.proved(demand, numbers, paper)
                self.assertEqual(index is not None, each_two)
                if index is not None:
                    longest = max(len(equal) + len(sort) for equal, sort in (demand[1][at] for at in numbers))
                    self.assertEqual(len(index), longest)
                    self.assertTrue(all(serves_by_fact(index, demand[1][at]) for at in numbers))

    def test_by_hand(self):
        demand = (4, (((), ((0, "up"), (1, "up"), (2, "down"))), ((0,), ((1, "down"), (2, "down"))),
                      ((0,), ((1, "down"), (2, "up"))), ((0, 1), ()), ((0, 2), ())))
        self.assertEqual(fit_paper(demand, (0, 1)), ("ways", 0, 1, 1, 2))
        self.assertTrue(do_fit(demand, (0, 2)))
        self.assertTrue(do_fit(demand, (0, 2, 3)))
        self.assertEqual(fit_paper(demand, (3, 4)), ("sets", 3, 0, 4, 0))
        self.assertEqual(check_fit(demand, (0, 4), ("sets", 0, 2, 4, 0)), "sets")
        self.assertIsNone(index_for(demand, (0, 1)))
        self.assertEqual(len(index_for(demand, (0, 2, 3))), 3)
        self.assertEqual(len(index_for(demand, (3,))), 2)
        self.assertEqual(check_fit(demand, (3,), ("fit", ((1, "down"), (0, "up"), (3, "up")))), "fit")

    def due(self, demand, numbers, paper):
        """By the definitions: the part that is due of a PAPER, or None of one that holds."""
        forms = {"fit": 2, "sets": 5, "ways": 5}
        if type(paper) is not tuple or not paper or type(paper[0]) is not str or forms.get(paper[0]) != len(paper):
            return "form"
        if paper[0] == "fit":
            known = {repr(index) for index in set.union(*SERVED[demand[0]].values())}
            right = repr(paper[1]) in known and all(serves_by_fact(paper[1], demand[1][at]) for at in numbers)
            return None if right else "fit"
        if not all(type(part) is int and 0 <= part < 99 for part in paper[1:]):
            return paper[0]
        try:
            self.proved(demand, numbers, paper)
        except (AssertionError, IndexError, KeyError):
            return paper[0]
        return None

    def test_changed_papers(self):
        demands = [(demand, (0, 1)) for demand in pairs(2)[::3]]
        demands += [((3, tuple(all_lookups(3)[at::17][:5])), (0, 2, 3)) for at in range(17)]
        for demand, numbers in demands:
            whole = (("fit", ((0, "up"), (1, "up"))), ("sets", *numbers[:1], 0, *numbers[1:2], 1),
                     ("ways", *numbers[:2], 0, 1))
            for paper in (fit_paper(demand, numbers), *whole):
                for wrong in (paper, *changed(paper)):
                    part = self.due(demand, numbers, wrong)
                    told = error_of(check_fit, demand, numbers, wrong)
                    self.assertEqual(told, None if part is None else ("BadPaper", {"part": part}), wrong)

    def test_all_papers_on_sets_and_ways(self):
        demand = (3, (((), ((0, "up"), (1, "up"))), ((), ((1, "up"), (0, "down"), (2, "up"))), ((2,), ((0, "up"),))))
        for numbers in ((0, 1), (0, 2), (1, 2), (0, 1, 2), (1,)):
            for word in ("sets", "ways"):
                for at in range(-1, 4 ** 4):
                    paper = (word, at // 64, at // 16 - at // 64 * 4, at // 4 - at // 16 * 4, at - at // 4 * 4)
                    part = self.due(demand, numbers, paper)
                    told = error_of(check_fit, demand, numbers, paper)
                    self.assertEqual(told, None if part is None else ("BadPaper", {"part": part}), paper)

    def test_the_two_are_among_the_numbers_and_the_lesser_is_first(self):
        demand = (3, (((0,), ()), ((1,), ()), ((2,), ())))
        self.assertEqual(check_fit(demand, (0, 1), ("sets", 0, 0, 1, 0)), "sets")
        for paper in (("sets", 1, 0, 0, 0), ("sets", 0, 0, 2, 0), ("sets", 0, 0, 0, 0), ("sets", 0, 0, True, 0),
                      ("sets", False, 0, 1, 0), ("sets", 0, False, 1, 0), ("sets", 0, 0, 1, 1), ("sets", 0, -1, 1, 0),
                      ("sets", Oddity(), 0, 1, 0), ("sets", 0, 0, 1, Thorny()), ("sets", [0], 0, 1, 0)):
            self.assertEqual(error_of(check_fit, demand, (0, 1), paper), ("BadPaper", {"part": "sets"}))
        demand = (2, (((), ((0, "down"), (1, "up"))), ((), ((0, "up"), (1, "up")))))
        self.assertEqual(check_fit(demand, (0, 1), ("ways", 0, 1, 0, 1)), "ways")
        for paper in (("ways", 1, 0, 0, 1), ("ways", 0, 1, 1, 0), ("ways", 0, 1, 0, 0), ("ways", 0, 0, 0, 1),
                      ("ways", 0, 1, False, True), ("ways", 0, 1, 0, 2), ("ways", 0, 1, Oddity(), 1),
                      ("ways", 0, 1, 0, Thorny()), ("ways", 0, 1, None, 1), ("ways", 0, 1, 0, [1])):
            self.assertEqual(error_of(check_fit, demand, (0, 1), paper), ("BadPaper", {"part": "ways"}))

    def test_form(self):
        demand = (1, (((0,), ()),))
        for paper in (None, 0, True, "fit", (), [], ["fit", ((0, "up"),)], {}, ("fit",), ("fit", ((0, "up"),), 1),
                      ("sets", 0, 0, 1), ("ways",), ("not", 1), ("Fit", 1), (None, 1), ([], 1), (Thorny(), 1),
                      (Oddity(), ((0, "up"),)), Oddity(), Thorny()):
            self.assertEqual(error_of(check_fit, demand, (0,), paper), ("BadPaper", {"part": "form"}))
        for index in (None, (), ((1, "up"),), [(0, "up")], ((0, "Up"),), Oddity(), Thorny()):
            self.assertEqual(error_of(check_fit, demand, (0,), ("fit", index)), ("BadPaper", {"part": "fit"}))

    def test_numbers(self):
        demand = (2, (((0,), ()), ((0, 1), ()), ((1,), ())))
        for call, rest in ((do_fit, ()), (index_for, ()), (fit_paper, ()), (check_fit, ("wrong",))):
            for numbers in ((), None, 0, True, "01", [0, 1], {}, (1, 0), (0, 0), (0, 3), (-1, 0), (False, 1), (0, True),
                            (0, None), (0, "1"), ((0,), 1), Oddity(), Thorny(), (Oddity(),), (Thorny(), 1)):
                kind, fields = error_of(call, demand, numbers, *rest)
                self.assertEqual(kind, "BadNumbers")
                self.assertIs(fields["given"], numbers)
            self.assertEqual(error_of(call, None, None, *rest), ("BadDemand", {"part": "form"}))
        self.assertEqual(error_of(check_fit, demand, (0, 1), None), ("BadPaper", {"part": "form"}))
        self.assertTrue(do_fit((8, tuple((tuple(range(many)), ()) for many in range(1, 9))), tuple(range(8))))


class Ahead(unittest.TestCase):
    def told(self, demand):
        bare = bare_lookups(demand)
        return {(one, other): is_ahead(demand, one, other) for one in bare for other in bare}

    def test_beside_all_indexes(self):
        for demand in pairs(3)[::5] + some_demands(3, (3, 6, 9, 12), 60, 5):
            served = served_sets(demand, SERVED[3])
            for (one, other), ahead in self.told(demand).items():
                sets, theirs = has_sets(demand[1][one]), has_sets(demand[1][other])
                fit = one != other and bool(served[one] & served[other])
                self.assertIs(ahead, fit and len(sets[0]) < len(theirs[0]))
                # of two BARE ones that fit one has fewer columns first and last
                if fit:
                    self.assertNotEqual(len(sets[0]), len(theirs[0]))
                    self.assertEqual(len(sets[0]) < len(theirs[0]), len(sets[-1]) < len(theirs[-1]))

    def test_it_is_handed_on(self):
        for demand in BIG + some_demands(3, (6, 9, 12), 60, 6):
            told = self.told(demand)
            for one, other in told:
                for third in bare_lookups(demand):
                    if told[one, other] and told[other, third]:
                        self.assertTrue(told[one, third])

    def test_by_hand(self):
        demand = (3, (((), ((0, "up"), (1, "up"))), ((0, 1), ((2, "up"),)), ((0, 2), ()), ((1,), ())))
        self.assertTrue(is_ahead(demand, 0, 1))
        self.assertFalse(is_ahead(demand, 1, 0))
        self.assertFalse(is_ahead(demand, 0, 2))
        self.assertTrue(is_ahead(demand, 3, 1))
        self.assertFalse(is_ahead(demand, 1, 1))

    def test_what_is_no_number_of_a_bare_one(self):
        demand = (2, (((), ((0, "up"), (1, "up"))), ((0,), ()), ((1,), ())))
        self.assertEqual(bare_lookups(demand), (0, 2))
        self.assertFalse(is_ahead(demand, 0, 2))
        for thing in (1, 3, -1, True, False, None, "0", (), (0,), [], {}, 10 ** 59, Oddity(), Thorny()):
            for one, other in ((thing, 0), (0, thing), (thing, "other")):
                kind, fields = error_of(is_ahead, demand, one, other)
                self.assertEqual(kind, "BadNumber")
                self.assertIs(fields["given"], thing)
        self.assertEqual(error_of(is_ahead, (2,), 9, 9), ("BadDemand", {"part": "form"}))


if __name__ == "__main__":
    unittest.main()
