"""fewindexes/underbests.py: STRETCHES, LONE LOOKUPS, BEST UNDER TELLS, PROFIT, their PAPERS (points 40, 41, 42)."""

import unittest
from itertools import combinations, product
from random import Random
from time import perf_counter

from fewindexes.fewunder import fewest_under
from fewindexes.underbests import (best_under, best_under_paper, bests_under, check_best_under, check_profit, is_stretch,
                                   lone_lookups, profit, profit_paper)
from cases import (ODD_THINGS, THORNS, Oddity, Thorny, all_indexes, all_lookups, are_amounts, are_indexes, changed,
                   error_of, masks_by_all, reached_masks, some_demands, some_lookup)
from price_cases import some_worths
from told_cases import (closed_by_words, cut_by_words, fit_under_by_fact, kinds_of_tells, serves_under, served_under,
                        some_tells, turned)

SMALL = some_demands(2, (1, 2, 4, 6, 9, 12), 9, 2), some_demands(3, (1, 3, 5, 8, 12), 12, 3)
BIG = some_demands(8, (12,), 10, 4) + some_demands(5, (7, 12), 10, 5) + some_demands(4, (12,), 10, 6)
TOLLS = (0, 1, 2, 5, 100, 999, 1000, 1001, 2500, 100000)


def is_stretch_by_words(tells, one, other):
    """Point 40, word by word."""
    ours, theirs = closed_by_words(tells, one), closed_by_words(tells, other)
    cut, steps = cut_by_words(tells, *one), cut_by_words(tells, *other)
    for at in range(len(theirs)):
        if theirs[at:at + len(ours)] == ours:
            between = steps[at:at + len(ours) - 1]
            return cut in (between, turned(between))
    return False


def lone_by_words(demand, tells):
    lookups = demand[1]

    def inside(one, other):
        return is_stretch_by_words(tells, lookups[one], lookups[other])
    numbers = range(len(lookups))
    return [one for one in numbers if not any(other != one and inside(one, other)
                                              and not (other > one and inside(other, one)) for other in numbers)]


def lone_masks(demand, lone, served):
    """For each INDEX the LONE LOOKUPS that it serves, a bit for each."""
    return masks_by_all((demand[0], tuple(demand[1][number] for number in lone)), served)


def sum_in(worths, mask):
    return sum(worth for number, worth in enumerate(worths) if mask >> number & 1)


def bests_by_all(worths, masks):
    """Point 41 for K from 1 to 12, by trying all INDEXES."""
    return [max(sum_in(worths, mask) for mask in reached) for reached in reached_masks(set(masks.values()), 12)]


def cases():
    """Small DEMANDS with TELLS, the LONE LOOKUPS, and the masks of all INDEXES."""
    for columns, demands, kinds in ((1, some_demands(1, (1, 2, 3), 4, 1), kinds_of_tells(1, 1)),
                                    (2, SMALL[0], kinds_of_tells(2, 2)), (3, SMALL[1], kinds_of_tells(3, 3)[::8])):
        for at, tells in enumerate(kinds):
            served = served_under(columns, tells, all_indexes(columns))
            for demand in demands:
                lone = lone_by_words(demand, tells)
                yield at, demand, tells, lone, lone_masks(demand, lone, served)


CASES = list(cases())


class Stretch(unittest.TestCase):
    def test_beside_the_words(self):
        for columns, kinds in ((1, kinds_of_tells(1, 1)), (2, kinds_of_tells(2, 2)), (3, kinds_of_tells(3, 3)[::20])):
            lookups = all_lookups(columns)
            for tells in kinds:
                for one in lookups[::max(1, columns * columns - 5)]:
                    for other in lookups:
                        self.assertIs(is_stretch(columns, tells, one, other), is_stretch_by_words(tells, one, other))

    def test_what_serves_it_serves_its_stretches(self):
        for columns, kinds in ((2, kinds_of_tells(2, 2)), (3, kinds_of_tells(3, 3)[::30])):
            for tells in kinds:
                served = served_under(columns, tells, all_indexes(columns))
                for one, other in product(all_lookups(columns)[::columns - 1], all_lookups(columns)):
                    if is_stretch(columns, tells, one, other):
                        self.assertLessEqual(served[other], served[one], (tells, one, other))

    def test_big_ones(self):
        source = Random(4)
        for columns in (4, 6, 8):
            for at, tells in enumerate(some_tells(columns, 25, columns) + some_tells(columns, 15, columns + 9, 2)):
                for _ in range(25):
                    turn = source.sample(range(columns), columns)
                    one, other = some_lookup(source, turn), some_lookup(source, turn)
                    self.assertIs(is_stretch(columns, tells, one, other), is_stretch_by_words(tells, one, other))
                    self.assertIs(is_stretch(columns, tells, one, one), True)

    def test_by_hand(self):
        long = ((0,), ((1, "up"), (2, "down"), (3, "up")))
        for one, told in ((long, True), (((0,), ((1, "up"),)), True), (((0,), ((1, "down"),)), True), (((0,), ()), True),
                          (((0, 1), ()), True), (((0, 1), ((2, "up"), (3, "down"))), True), (((0, 1, 2, 3), ()), True),
                          (((0, 1), ((2, "up"), (3, "up"))), False), (((0, 1, 2), ((3, "down"),)), True),
                          (((1,), ()), False), (((0,), ((2, "down"),)), False), (((), ((0, "up"),)), False),
                          (((), ((0, "up"), (1, "up"))), False), (((0, 2), ()), False),
                          (((0, 1), ((2, "down"), (3, "up"), (4, "up"))), False)):
            self.assertIs(is_stretch(5, (), one, long), told, one)
        # where column 0 tells 1, the SETS (0,) and (0, 1) are one; where 2 tells 3, that STEP is none
        self.assertIs(is_stretch(5, (((0,), (1,)),), ((0,), ((2, "down"),)), long), True)
        self.assertIs(is_stretch(5, (((2,), (3,)),), long, ((0,), ((1, "up"), (2, "down")))), True)
        self.assertIs(is_stretch(5, (((2,), (3,)),), long, ((0,), ((1, "down"), (2, "up")))), True)
        self.assertIs(is_stretch(5, (((2,), (3,)),), long, ((0,), ((1, "down"), (2, "down")))), False)
        # () alone at first: with nothing behind it, it is there where a CLOSED SET is the CLOSURE of ()
        self.assertIs(is_stretch(2, (((), (0,)),), ((0,), ()), ((), ((1, "up"),))), True)
        self.assertIs(is_stretch(2, (((), (0,)),), ((0,), ()), ((1,), ())), False)

    def test_both_ways_and_turned(self):
        one, other = ((0,), ((1, "up"), (2, "down"))), ((0,), ((1, "down"), (2, "up")))
        self.assertIs(is_stretch(3, (), one, other), True)
        self.assertIs(is_stretch(3, (), other, one), True)

    def test_refused(self):
        good = ((0,), ((1, "up"),))
        for columns in (0, 9, True, None, "2", Oddity(), Thorny()):
            kind, fields = error_of(is_stretch, columns, None, None, None)
            self.assertEqual(kind, "BadNumber")
            self.assertIs(fields["given"], columns)
        for tells, number in ((None, None), ([], None), ((None,), 0), ((((0,), ()),), 0), ((((0,), (1,)),) * 2, 1),
                              ((((0,), (2,)),), 0), (Oddity(), None), (Thorny(), None), ((Thorny(),), 0)):
            self.assertEqual(error_of(is_stretch, 2, tells, None, None), ("BadTells", {"number": number}))
        right = set(map(repr, all_lookups(2)))
        for wrong in changed(good, THORNS):
            if repr(wrong) not in right:
                for given in ((wrong, None), (good, wrong), (wrong, Thorny())):
                    kind, fields = error_of(is_stretch, 2, (), *given)
                    self.assertEqual(kind, "BadLookup")
                    self.assertIs(fields["given"], wrong)
            else:
                self.assertIsNone(error_of(is_stretch, 2, (), wrong, good))
                self.assertIsNone(error_of(is_stretch, 2, (), good, wrong))


class Lone(unittest.TestCase):
    def test_beside_the_words(self):
        for _, demand, tells, lone, _ in CASES:
            self.assertEqual(lone_lookups(demand, tells), tuple(lone))
        for at, demand in enumerate(BIG):
            for tells in some_tells(demand[0], 6, at) + some_tells(demand[0], 6, at + 50, 2):
                self.assertEqual(lone_lookups(demand, tells), tuple(lone_by_words(demand, tells)))

    def test_by_hand(self):
        turns = (2, (((), ((0, "down"), (1, "up"))), ((), ((0, "up"), (1, "down"))), ((0,), ((1, "up"),))))
        self.assertEqual(lone_lookups(turns, ()), (0,))
        self.assertEqual(lone_lookups(turns, (((0,), (1,)),)), (0,))
        self.assertEqual(lone_lookups((2, turns[1][1:]), ()), (1 - 1,))
        demand = (3, (((), ((1, "up"),)), ((0,), ((1, "up"),)), ((0,), ((2, "up"),)), ((1,), ())))
        self.assertEqual(lone_lookups(demand, ()), (0, 1, 2))
        self.assertEqual(lone_lookups(demand, (((0,), (1,)),)), (0, 2))
        self.assertEqual(lone_lookups(demand, (((), (0, 1, 2)),)), (0,))

    def test_refused(self):
        for wrong, part in ((None, "form"), ((9, ()), "columns"), ((1, ()), "lookups"), ((1, (None,)), 0)):
            self.assertEqual(error_of(lone_lookups, wrong, None), ("BadDemand", {"part": part}))
        for tells, number in ((None, None), ([], None), ((None,), 0), ((((0,), ()),), 0), (Oddity(), None), (Thorny(), None)):
            self.assertEqual(error_of(lone_lookups, (2, (((0,), ()),)), tells), ("BadTells", {"number": number}))


class Best(unittest.TestCase):
    def test_beside_all_indexes(self):
        for at, demand, tells, lone, masks in CASES:
            for worths in some_worths(len(lone), at)[at % 3::3]:
                told = bests_by_all(worths, masks)
                for k in (1, 2, 3, 4, 7, 12):
                    self.assertEqual(best_under(demand, tells, worths, k), told[k - 1], (demand, tells, worths, k))
                self.assertEqual(bests_under(demand, tells, worths), tuple(told[:fewest_under(demand, tells)]))

    def test_what_one_more_adds(self):
        for at, demand in enumerate(BIG):
            for tells in [(), *some_tells(demand[0], 4, at + 10)]:
                worths = some_worths(len(lone_lookups(demand, tells)), at)[at % 7]
                sums = [0, *bests_under(demand, tells, worths)]
                added = [after - before for before, after in zip(sums, sums[1:])]
                self.assertEqual(added, sorted(added, reverse=True))
                self.assertEqual(len(sums) - 1, fewest_under(demand, tells))
                self.assertEqual(sums[-1], sum(worths))
                for k in (1, len(sums) - 1, 12):
                    self.assertEqual(best_under(demand, tells, worths, k), sums[min(k, len(sums) - 1)])

    def test_by_hand(self):
        demand = (3, (((), ((0, "up"), (1, "up"))), ((0, 1), ((2, "up"),)), ((0, 2), ()), ((1,), ())))
        self.assertEqual(bests_under(demand, (), (4, 5, 6, 7)), (12, 18, 22))
        self.assertEqual(bests_under(demand, (), (0, 0, 0, 0)), (0, 0, 0))
        # column 0 tells 1: the third one is the second one's last set; column 1 alone lies between the first one's sets
        self.assertEqual(lone_lookups(demand, (((0,), (1,)),)), (0, 1, 3))
        self.assertEqual(bests_under(demand, (((0,), (1,)),), (4, 5, 7)), (12, 16))
        self.assertEqual(bests_under(demand, (((), (0, 1, 2)),), (9,)), (9,))

    def test_the_told_paper_holds(self):
        for at, demand, tells, lone, _ in CASES[::3]:
            self.held(at, demand, tells, lone)
        for at, demand in enumerate(BIG):
            for tells in [(), *some_tells(demand[0], 3, at + 30)]:
                self.held(at, demand, tells, lone_by_words(demand, tells))

    def held(self, at, demand, tells, lone):
        lookups = [demand[1][number] for number in lone]
        worths = some_worths(len(lone), at)[at % 7]
        rows = fitting_rows(tells, lookups)
        for k in (1, 2, 4, 12):
            indexes, toll, rebates = paper = best_under_paper(demand, tells, worths, k)
            best = best_under(demand, tells, worths, k)
            self.assertEqual(check_best_under(demand, tells, worths, k, paper), best)
            self.assertLessEqual(len(indexes), k)
            self.proved(lookups, tells, worths, rows, indexes, toll, rebates, k * toll)
        for toll in TOLLS[at % 4::4]:
            indexes, rebates = paper = profit_paper(demand, tells, worths, toll)
            self.assertEqual(check_profit(demand, tells, worths, toll, paper), profit(demand, tells, worths, toll))
            self.assertEqual(sum(rebates), profit(demand, tells, worths, toll))
            self.assertLessEqual(len(indexes), 12)
            self.proved(lookups, tells, worths, rows, indexes, toll, rebates, len(indexes) * toll)

    def proved(self, lookups, tells, worths, rows, indexes, toll, rebates, paid):
        """The words of points 41 and 42, with SERVES and fit by their Facts."""
        self.assertTrue(are_amounts((toll,), 1) and are_amounts(rebates, len(lookups)))
        beyond = [max(0, worth - rebate) for worth, rebate in zip(worths, rebates)]
        for row in rows:
            self.assertLessEqual(sum(beyond[at] for at in row), toll)
        served = [worth for worth, lookup in zip(worths, lookups)
                  if any(serves_under(tells, index, lookup) for index in indexes)]
        self.assertEqual(sum(served), paid + sum(rebates))

    def test_reasonable_time(self):
        began = perf_counter()
        for demand in BIG[:10]:
            for tells in some_tells(8, 3, 3):
                worths = tuple(range(900, 900 + len(lone_lookups(demand, tells))))
                best_under_paper(demand, tells, worths, 12)
                profit_paper(demand, tells, worths, 500)
        self.assertLess(perf_counter() - began, 60)


def fitting_rows(tells, lookups):
    """All tuples of places of LOOKUPS that fit under TELLS."""
    fit = {(one, other) for one, other in combinations(range(len(lookups)), 2)
           if fit_under_by_fact(tells, lookups[one], lookups[other])}
    rows = [()]
    for place in range(len(lookups)):
        rows += [(*row, place) for row in rows if all((at, place) in fit for at in row)]
    return rows


class Profit(unittest.TestCase):
    def test_beside_all_indexes(self):
        for at, demand, tells, lone, masks in CASES:
            worths = some_worths(len(lone), at)[at % 7]
            told = [0, *bests_by_all(worths, masks)]
            for toll in TOLLS[at % 3::3]:
                wanted = max(best - k * toll for k, best in enumerate(told))
                self.assertEqual(profit(demand, tells, worths, toll), wanted, (demand, tells, worths, toll))

    def test_beside_best(self):
        for at, demand in enumerate(BIG):
            for tells in [(), *some_tells(demand[0], 3, at + 20)]:
                worths = some_worths(len(lone_lookups(demand, tells)), at)[at % 7]
                sums = [0, *bests_under(demand, tells, worths)]
                for toll in (*TOLLS, *[max(0, after - before) for before, after in zip(sums, sums[1:])]):
                    self.assertEqual(profit(demand, tells, worths, toll),
                                     max(best - k * toll for k, best in enumerate(sums)))

    def test_by_hand(self):
        demand = (3, (((), ((0, "up"), (1, "up"))), ((0, 1), ((2, "up"),)), ((0, 2), ()), ((1,), ())))
        for toll, told in ((0, 22), (1, 19), (4, 10), (5, 8), (6, 6), (7, 5), (11, 1), (12, 0), (13, 0), (100000, 0)):
            self.assertEqual(profit(demand, (), (4, 5, 6, 7), toll), told)
        self.assertEqual(profit_paper(demand, (), (4, 5, 6, 7), 100000), ((), (0, 0, 0, 0)))
        self.assertEqual(profit(demand, (), (1000,) * 4, 100000), 0)
        self.assertEqual(profit(demand, (), (0,) * 4, 0), 0)


class Check(unittest.TestCase):
    """Both PAPERS of one DEMAND: column 0 tells 1, and the LONE ones are 0, 1 and 3."""
    DEMAND = (3, (((), ((0, "up"), (1, "up"))), ((0, 1), ((2, "up"),)), ((0, 2), ()), ((1,), ((2, "up"),))))
    TELLS, WORTHS = (((0,), (1,)),), (4, 5, 7)
    ONE, OTHER = ((0, "up"), (2, "up")), ((1, "down"), (2, "down"))

    def best_part(self, paper, k=1):
        name, fields = error_of(check_best_under, self.DEMAND, self.TELLS, self.WORTHS, k, paper)
        self.assertEqual(name, "BadPaper")
        return fields["part"]

    def profit_part(self, paper, toll=6):
        name, fields = error_of(check_profit, self.DEMAND, self.TELLS, self.WORTHS, toll, paper)
        self.assertEqual(name, "BadPaper")
        return fields["part"]

    def test_right_ones(self):
        self.assertEqual(lone_lookups(self.DEMAND, self.TELLS), (0, 1, 3))
        for indexes in ((self.ONE,), (((0, "down"), (1, "up"), (2, "down")),)):
            for paper in ((indexes, 9, (0, 0, 0)), (indexes, 7, (2, 0, 0)), (indexes, 7, (0, 2, 0)), (indexes, 8, (1, 0, 0))):
                self.assertEqual(check_best_under(self.DEMAND, self.TELLS, self.WORTHS, 1, paper), 9)
        both = (self.ONE, self.OTHER)
        for paper in ((both, 0, (4, 5, 7)), (both, 7, (1, 1, 0)), (both, 4, (4, 1, 3))):
            self.assertEqual(check_best_under(self.DEMAND, self.TELLS, self.WORTHS, 2, paper), 16)
        self.assertEqual(check_best_under(self.DEMAND, self.TELLS, self.WORTHS, 12, (both * 6, 0, (4, 5, 7))), 16)
        for toll, indexes, rebates in ((0, both, (4, 5, 7)), (6, both, (3, 0, 1)), (6, both, (0, 3, 1)), (7, both, (1, 1, 0)),
                                       (7, (self.ONE,), (2, 0, 0)), (8, (self.ONE,), (0, 1, 0)), (9, (), (0, 0, 0)),
                                       (9, (self.ONE,), (0, 0, 0)), (100000, (), (0, 0, 0)), (0, both * 6, (4, 5, 7))):
            self.assertEqual(check_profit(self.DEMAND, self.TELLS, self.WORTHS, toll, (indexes, rebates)), sum(rebates))

    def test_form(self):
        for paper in (None, 0, True, "abc", "ab", (), [], {}, ((),), ((), 0, (), ()), [(), 0, ()], Oddity(), Thorny()):
            self.assertEqual(self.best_part(paper), "form")
            self.assertEqual(self.profit_part(paper), "form")
        self.assertEqual(self.best_part(((self.ONE,), (0, 0, 0))), "form")
        self.assertEqual(self.profit_part(((self.ONE,), 9, (0, 0, 0))), "form")

    def test_indexes(self):
        for wrong in (None, 0, True, "x", [], {}, [self.ONE], (self.ONE, ()), (self.ONE, None), (((3, "up"),),),
                      (self.ONE,) * 13, Oddity(), Thorny(), (Oddity(),), (Thorny(), self.ONE)):
            for others in ((9, (0, 0, 0)), (None, None)):
                self.assertEqual(self.best_part((wrong, *others)), "indexes")
                self.assertEqual(self.profit_part((wrong, others[1])), "indexes")
        for k in range(1, 13):
            self.assertEqual(self.best_part(((self.ONE,) * (k + 1), None, None), k), "indexes")
            self.assertEqual(self.best_part(((self.ONE,) * k, None, None), k), "toll")
        self.assertEqual(self.profit_part(((self.ONE,) * 12, None)), "rebates")

    def test_toll_and_rebates(self):
        for wrong in (None, True, False, "6", (), [], -1, {}, b"6", Oddity(), Thorny()):
            for others in ((0, 0, 0), None):
                self.assertEqual(self.best_part(((self.ONE,), wrong, others)), "toll")
        for wrong in (None, 0, True, "x", [], {}, (), (0, 0), (0, 0, 0, 0), (0, 0, -1), (False, 0, 0), [0, 0, 0],
                      (None, 0, 0), Oddity(), Thorny(), (0, Oddity(), 0), (0, 0, Thorny())):
            for toll in (9, 0):
                self.assertEqual(self.best_part(((self.ONE,), toll, wrong)), "rebates")
            self.assertEqual(self.profit_part(((self.ONE,), wrong)), "rebates")

    def test_rows_and_sum(self):
        for toll, rebates in ((8, (0, 0, 0)), (6, (1, 1, 0)), (0, (4, 5, 6)), (0, (0, 0, 0)), (6, (9, 0, 0)), (4, (9, 9, 0))):
            for indexes in ((self.ONE,), ()):
                self.assertEqual(self.best_part((indexes, toll, rebates)), "rows")
                self.assertEqual(self.profit_part((indexes, rebates), toll), "rows")
        for indexes, toll, rebates in (((self.ONE,), 10, (0, 0, 0)), ((self.ONE,), 9, (0, 0, 1)), ((), 9, (0, 0, 0)),
                                       ((self.OTHER,), 9, (0, 0, 0)), ((self.ONE,), 10 ** 59, (0, 0, 0)),
                                       ((self.ONE,), 9, (10 ** 59, 0, 0))):
            self.assertEqual(self.best_part((indexes, toll, rebates)), "sum")
        for indexes, toll, rebates in (((self.ONE,), 6, (3, 0, 1)), ((self.OTHER,), 6, (3, 0, 1)), ((), 6, (3, 0, 1)),
                                       ((self.ONE, self.OTHER), 6, (4, 0, 1)), ((self.ONE, self.ONE, self.OTHER), 6, (3, 0, 1)),
                                       ((), 9, (0, 0, 1)), ((self.ONE,), 10, (0, 0, 0))):
            self.assertEqual(self.profit_part((indexes, rebates), toll), "sum")

    def due(self, case, worths, bound, paper, most=None):
        """By the definitions: the part that is due of a PAPER, or None; bound is K, or TOLL where most is 12."""
        _, demand, tells, lone, masks = case
        if type(paper) is not tuple or len(paper) != (2 if most else 3):
            return "form"
        indexes, toll, rebates = (paper[0], bound, paper[1]) if most else paper
        if not are_indexes(indexes, demand[0], most or bound):
            return "indexes"
        if not are_amounts((toll,), 1):
            return "toll"
        if not are_amounts(rebates, len(lone)):
            return "rebates"
        beyond = [max(0, worth - rebate) for worth, rebate in zip(worths, rebates)]
        if any(sum_in(beyond, mask) > toll for mask in masks.values()):
            return "rows"
        mask = 0
        for index in indexes:
            mask |= masks.get(index, 0)
        many = len(indexes) if most else bound
        return None if sum_in(worths, mask) == many * toll + sum(rebates) else "sum"

    def test_changed_papers(self):
        for place, case in enumerate(CASES[40::97]):
            at, demand, tells, lone, _ = case
            worths = some_worths(len(lone), at)[place % 7]
            for k in (place % 3 + 1,):
                paper = best_under_paper(demand, tells, worths, k)
                for wrong in (paper, *changed(paper, THORNS)):
                    part = self.due(case, worths, k, wrong)
                    told = error_of(check_best_under, demand, tells, worths, k, wrong)
                    self.assertEqual(told, None if part is None else ("BadPaper", {"part": part}), wrong)
            for toll in (0, TOLLS[place % 6]):
                paper = profit_paper(demand, tells, worths, toll)
                for wrong in (paper, (paper[0] * 12, paper[1]), *changed(paper, THORNS)):
                    part = self.due(case, worths, toll, wrong, 12)
                    told = error_of(check_profit, demand, tells, worths, toll, wrong)
                    self.assertEqual(told, None if part is None else ("BadPaper", {"part": part}), wrong)

    def test_drawn_papers(self):
        # whatever holds tells BEST, or PROFIT
        source, held = Random(6), [0, 0]
        some = [case for case in CASES if 1 < len(case[3]) < 5]
        for _ in range(3000):
            case = source.choice(some)
            _, demand, tells, lone, masks = case
            worths = tuple(source.randint(0, 3) for _ in lone)
            indexes = tuple(source.choice(list(masks)) for _ in range(source.randint(0, 3)))
            rebates = tuple(source.randint(0, worth) for worth in worths)
            toll, k = source.randint(0, 5), source.randint(1, 3)
            part = self.due(case, worths, k, (indexes, toll, rebates))
            told = error_of(check_best_under, demand, tells, worths, k, (indexes, toll, rebates))
            self.assertEqual(told, None if part is None else ("BadPaper", {"part": part}))
            if part is None:
                held[0] += 1
                self.assertEqual(check_best_under(demand, tells, worths, k, (indexes, toll, rebates)),
                                 bests_by_all(worths, masks)[k - 1])
            part = self.due(case, worths, toll, (indexes, rebates), 12)
            told = error_of(check_profit, demand, tells, worths, toll, (indexes, rebates))
            self.assertEqual(told, None if part is None else ("BadPaper", {"part": part}))
            if part is None:
                held[1] += 1
                best = max(one - many * toll for many, one in enumerate([0, *bests_by_all(worths, masks)]))
                self.assertEqual(check_profit(demand, tells, worths, toll, (indexes, rebates)), best)
        self.assertGreater(min(held), 30)


class Refused(unittest.TestCase):
    DEMAND = (2, (((0,), ()), ((0, 1), ()), ((1,), ())))
    CALLS = ((best_under, (None,)), (bests_under, ()), (best_under_paper, (None,)), (check_best_under, (None, "wrong")),
             (profit, (None,)), (profit_paper, (None,)), (check_profit, (None, "wrong")))

    def test_demand_tells_worths(self):
        for call, rest in self.CALLS:
            for demand, part in ((None, "form"), ((9, ()), "columns"), ((1, ()), "lookups"), ((1, (None,)), 0)):
                self.assertEqual(error_of(call, demand, None, None, *rest), ("BadDemand", {"part": part}))
            for tells, number in ((None, None), ([], None), ((None,), 0), ((((0,), ()),), 0), ((((0,), (1,)),) * 2, 1),
                                  ((((0,), (2,)),), 0), (Oddity(), None), (Thorny(), None), ((Thorny(),), 0)):
                self.assertEqual(error_of(call, self.DEMAND, tells, None, *rest), ("BadTells", {"number": number}))
            for worths in (*ODD_THINGS, (1, 2), (1, 2, 3, 4), (1, 2, -1), (1, 1001, 2), (True, 1, 1), (1, None, 1), [1, 2, 3],
                           (1, "2", 3), ((1,), 2, 3), Oddity(), Thorny(), (Oddity(), 1, 1), (1, 1, Thorny())):
                kind, fields = error_of(call, self.DEMAND, (), worths, *rest)
                self.assertEqual(kind, "BadWorths")
                self.assertIs(fields["given"], worths)
            # a WORTH for each LONE one, which TELLS can make fewer
            self.assertEqual(error_of(call, self.DEMAND, (((0,), (1,)),), (1, 2, 3), *rest)[0], "BadWorths")

    def test_k(self):
        for call, rest in ((best_under, ()), (best_under_paper, ()), (check_best_under, ("wrong",))):
            for k in (0, 13, -1, True, False, None, "1", (), (1,), [], 10 ** 59, Oddity(), Thorny()):
                kind, fields = error_of(call, self.DEMAND, (), (1, 2, 3), k, *rest)
                self.assertEqual(kind, "BadNumber")
                self.assertIs(fields["given"], k)
            for k in (1, 12):
                told = error_of(call, self.DEMAND, (), (1, 2, 3), k, *rest)
                self.assertEqual(told, ("BadPaper", {"part": "form"}) if rest else None)

    def test_toll(self):
        for call, rest in ((profit, ()), (profit_paper, ()), (check_profit, ("wrong",))):
            for toll in (-1, 100001, True, False, None, "1", (), (1,), [], 10 ** 59, Oddity(), Thorny()):
                kind, fields = error_of(call, self.DEMAND, (), (1, 2, 3), toll, *rest)
                self.assertEqual(kind, "BadNumber")
                self.assertIs(fields["given"], toll)
            for toll in (0, 100000):
                told = error_of(call, self.DEMAND, (), (1, 2, 3), toll, *rest)
                self.assertEqual(told, ("BadPaper", {"part": "form"}) if rest else None)


if __name__ == "__main__":
    unittest.main()
