"""fewindexes/needbests.py: WORTHS of NEEDS, their BEST, its PAPER (points 38, 39)."""

import unittest
from itertools import product
from random import Random
from time import perf_counter

from fewindexes.needbests import best_needsum, check_needbest, needbest_paper
from fewindexes.needs import least_for
from cases import (ODD_THINGS, THORNS, Oddity, Thorny, all_lookups, are_amounts, are_indexes, changed, error_of,
                   reached_masks, served_table, serves_by_fact)
from need_cases import need_masks, some_needs, wrong_needs
from price_cases import rows_of, some_worths

SERVED = {columns: served_table(columns) for columns in (1, 2, 3)}
ONE, TWO, BOTH = ((0,), ()), ((1,), ()), ((0, 1), ())
SIDE, WAY = ((), ((1, "up"),)), ((), ((0, "up"), (1, "down")))
SMALL = ([(1, needs) for needs in some_needs(1, ((1,), (3,), (2, 1), (1, 2, 3), (2, 2, 1, 1, 1)), 8, 1)]
         + [(2, needs) for needs in some_needs(2, ((1,), (12,), (4, 3), (2, 1, 5), (1, 1, 1, 1), (2, 3, 2, 2),
                                                   (1,) * 6), 25, 2)]
         + [(3, needs) for needs in some_needs(3, ((2, 3, 4), (24,), (24, 10), (3, 3, 3, 3), (2, 2, 2, 2, 2),
                                                   (2, 2, 1, 1, 1, 1), (1, 1, 1, 1, 1, 1)), 30, 3)])
BIG = ([(8, needs) for needs in some_needs(8, ((16, 16), (2, 2, 2, 2, 2), (1, 1, 1, 2, 2, 3), (11, 24)), 10, 4)]
       + [(4, needs) for needs in some_needs(4, ((5, 5, 6), (2, 2, 2, 2, 2), (9, 9, 2)), 8, 5)])


def bests_by_all(columns, needs, worths):
    """Point 38 for K from 1 to 6, by trying all INDEXES."""
    kinds = set(need_masks(SERVED[columns], needs).values())
    return [max(sum(worth for number, worth in enumerate(worths) if mask >> number & 1) for mask in reached)
            for reached in reached_masks(kinds, 6)]


def best_by_choices(needs, worths, k):
    """Another way: of all LOOKUPS, one or none for each NEED, of which no K + 1 are apart, the best."""
    best = 0
    for choice in product(*[(*need, None) for need in needs]):
        lookups = [lookup for lookup in choice if lookup is not None]
        told = sum(worth for worth, lookup in zip(worths, choice) if lookup is not None)
        if told > best:
            fit = {tuple(row) for row in rows_of(lookups) if len(row) == 2}
            lots = [()]
            for place in range(len(lookups)):
                lots += [(*lot, place) for lot in lots if not any((at, place) in fit for at in lot)]
            if max(map(len, lots)) <= k:
                best = told
    return best


class Best(unittest.TestCase):
    def test_beside_all_indexes(self):
        for at, (columns, needs) in enumerate(SMALL):
            for worths in some_worths(len(needs), at):
                told = bests_by_all(columns, needs, worths)
                for k in range(1, 7):
                    self.assertEqual(best_needsum(columns, needs, worths, k), told[k - 1], (needs, worths, k))

    def test_beside_all_choices(self):
        for at, (columns, needs) in enumerate(BIG):
            worths = some_worths(len(needs), at)[3 + at % 4]
            for k in (1, 2, 4):
                self.assertEqual(best_needsum(columns, needs, worths, k), best_by_choices(needs, worths, k))

    def test_sums_grow(self):
        for at, (columns, needs) in enumerate(SMALL + BIG):
            worths = some_worths(len(needs), at)[at % 7]
            sums = [best_needsum(columns, needs, worths, k) for k in range(1, 7)]
            self.assertEqual(sums, sorted(sums))
            self.assertEqual(set(sums[least_for(columns, needs) - 1:]), {sum(worths)})

    def test_by_hand(self):
        needs = ((ONE, TWO), (BOTH,), (WAY,), (TWO,))
        for worths, told in (((1, 2, 4, 8), (11, 15, 15, 15, 15, 15)), ((1, 2, 9, 1), (12, 13, 13, 13, 13, 13)),
                             ((0, 0, 0, 0), (0,) * 6), ((1000,) * 4, (3000, 4000, 4000, 4000, 4000, 4000)),
                             ((5, 5, 0, 5), (15,) * 6)):
            for k in range(1, 7):
                self.assertEqual(best_needsum(2, needs, worths, k), told[k - 1], (worths, k))
        whole = tuple((((column,), ()),) for column in range(6))
        for k in range(1, 7):
            self.assertEqual(best_needsum(6, whole, (1, 2, 3, 4, 5, 6), k), sum(range(7 - k, 7)))
        # one LOOKUP for two NEEDS is met for both
        pairs = ((ONE,), (ONE,), (TWO,), (TWO,))
        self.assertEqual([best_needsum(2, pairs, (3, 3, 2, 2), k) for k in (1, 2, 3)], [6, 10, 10])

    def test_the_told_paper_holds(self):
        for at, (columns, needs) in enumerate(SMALL + BIG):
            for worths in some_worths(len(needs), at)[at % 3::3]:
                for k in (1, 2, 3, 6):
                    indexes, tree = paper = needbest_paper(columns, needs, worths, k)
                    told = best_needsum(columns, needs, worths, k)
                    self.assertEqual(check_needbest(columns, needs, worths, k, paper), told)
                    self.assertLessEqual(len(indexes), k)
                    met = [any(serves_by_fact(index, lookup) for index in indexes for lookup in need) for need in needs]
                    self.assertEqual(sum(worth for worth, one in zip(worths, met) if one), told)
                    if columns < 4:
                        self.assertTrue(is_tree(needs, worths, k, told, {}, tree))

    def test_three_hundred_picks_in_reasonable_time(self):
        source, began = Random(7), perf_counter()
        for sizes in ((1, 1, 2, 4, 4), (24, 11), (1, 1, 4, 14), (11, 4, 4), (1, 1, 1, 2, 2, 3)):
            needs = tuple(tuple(sorted(source.sample(all_lookups(3), size))) for size in sizes)
            worths = tuple(source.randint(0, 9) for _ in sizes)
            for k in (1, 2, 6):
                paper = needbest_paper(3, needs, worths, k)
                self.assertEqual(check_needbest(3, needs, worths, k, paper), best_needsum(3, needs, worths, k))
        self.assertLess(perf_counter() - began, 60)


def is_tree(needs, worths, k, best, picked, tree):
    """Point 39, of a thing of any kind: whether it is a TREE behind what was picked, None where a NEED is left out."""
    if type(tree) is not tuple or not tree or type(tree[0]) is not str:
        return False
    chosen = {number: picked[number] for number in sorted(picked) if picked[number] is not None}
    if tree[0] == "apart" and len(tree) == 2:
        return is_apart(k, chosen, tree[1])
    if tree[0] == "tolls" and len(tree) == 3:
        left = sum(worth for number, worth in enumerate(worths) if number not in picked)
        return are_tolls([worths[number] for number in chosen], list(chosen.values()), k, best - left, *tree[1:])
    if tree[0] != "need" or len(tree) != 3:
        return False
    number, trees = tree[1:]
    if type(number) is not int or number not in range(len(needs)) or number in picked or type(trees) is not tuple:
        return False
    things = (*needs[number], None)
    return len(trees) == len(things) and all(is_tree(needs, worths, k, best, {**picked, number: thing}, part)
                                             for thing, part in zip(things, trees))


def is_apart(k, chosen, numbers):
    if type(numbers) is not tuple or len(numbers) != k + 1 or not all(type(number) is int for number in numbers):
        return False
    if list(numbers) != sorted(set(numbers)) or not set(numbers) <= set(chosen):
        return False
    return max(map(len, rows_of([chosen[number] for number in numbers]))) == 1


def are_tolls(worths, lookups, k, most, toll, rebates):
    if not are_amounts((toll,), 1) or not are_amounts(rebates, len(worths)):
        return False
    beyond = [max(0, worth - rebate) for worth, rebate in zip(worths, rebates)]
    if any(sum(beyond[place] for place in row) > toll for row in rows_of(lookups)):
        return False
    return k * toll + sum(rebates) <= most


class CheckNeedbest(unittest.TestCase):
    NEEDS, WORTHS = ((ONE, TWO), (BOTH,), (WAY,)), (5, 3, 4)
    INDEXES = (((0, "up"), (1, "down")),)
    TREE = ("tolls", 0, ())

    def part(self, paper, needs=NEEDS, worths=WORTHS, k=1):
        name, fields = error_of(check_needbest, 2, needs, worths, k, paper)
        self.assertEqual(name, "BadPaper")
        return fields["part"]

    def good(self, paper, told, needs=NEEDS, worths=WORTHS, k=1):
        self.assertEqual(check_needbest(2, needs, worths, k, paper), told)

    def test_right_ones(self):
        # one INDEX meets all, so all WORTHS are no more than the SUM at once
        self.good((self.INDEXES, self.TREE), 12)
        self.good((self.INDEXES, ("tolls", 0, ())), 12, k=6)
        self.good((self.INDEXES, ("need", 1, (("tolls", 0, (3,)), ("tolls", 0, ())))), 12)
        self.good((self.INDEXES, ("need", 1, (("tolls", 3, (0,)), ("tolls", 0, ())))), 12)
        self.good((self.INDEXES, ("need", 1, (("tolls", 1, (2,)), ("tolls", 3, ())))), 12)
        self.good((((), ("tolls", 0, ()))), 0, worths=(0, 0, 0))

    def test_left_out(self):
        needs, worths, index = ((ONE,), (TWO,)), (5, 3), (((0, "up"),),)
        tree = ("need", 0, (("need", 1, (("apart", (0, 1)), ("tolls", 0, (5,)))), ("tolls", 0, ())))
        self.good((index, tree), 5, needs, worths)
        self.good((index, ("need", 0, (("need", 1, (("apart", (0, 1)), ("tolls", 5, (0,)))), ("tolls", 2, ())))), 5, needs, worths)
        self.good((index, ("need", 1, (("need", 0, (("apart", (0, 1)), ("tolls", 0, (3,)))), ("tolls", 0, ())))), 5, needs, worths)
        # the tree of what is left out stands behind those of the LOOKUPS
        turned = ("need", 0, (("tolls", 0, ()), tree[2][0]))
        self.assertEqual(self.part((index, turned), needs, worths), "tree")
        # a NEED that is left out is worth nothing any more, one that is not asked for is
        self.assertEqual(self.part((index, ("tolls", 0, ())), needs, worths), "tree")
        self.assertEqual(self.part((index, ("need", 0, (("tolls", 0, (5,)), ("tolls", 0, ())))), needs, worths), "tree")
        # with a TOLL for two apart, no "apart" is wanted: both together are no more than 8
        self.good(((((0, "up"),), ((1, "up"),)), ("tolls", 0, ())), 8, needs, worths, 2)

    def test_tolls_for_what_fits(self):
        needs, worths = ((ONE,), (BOTH,), (TWO,)), (4, 4, 4)
        index = (((0, "up"), (1, "up")),)
        both = ("need", 0, (("need", 1, (("need", 2, (("tolls", 8, (0, 0, 0)), ("tolls", 8, (0, 0)))),
                                         ("need", 2, (("apart", (0, 2)), ("tolls", 4, (0,)))))), ("tolls", 0, ())))
        self.good((index, both), 8, needs, worths)
        for wrong in (("tolls", 7, (0, 0, 0)), ("tolls", 8, (0, 0, 1)), ("tolls", 4, (0, 4, 0)), ("apart", (0, 1)),
                      ("apart", (1, 2)), ("apart", (0, 1, 2)), ("tolls", 8, (0, 0))):
            told = error_of(check_needbest, 2, needs, worths, 1,
                            (index, ("need", 0, (("need", 1, (("need", 2, (wrong, both[2][0][2][0][2][1])), both[2][0][2][1])), both[2][1]))))
            self.assertEqual(told, None if wrong == ("tolls", 4, (0, 4, 0)) else ("BadPaper", {"part": "tree"}), wrong)

    def test_a_lookup_for_two_needs_fits_itself(self):
        needs, worths = ((ONE,), (ONE,)), (5, 3)
        index = (((0, "up"),),)
        self.good((index, ("need", 0, (("need", 1, (("tolls", 8, (0, 0)), ("tolls", 5, (0,)))), ("tolls", 0, ())))), 8, needs, worths)
        for leaf in (("apart", (0, 1)), ("tolls", 5, (0, 0)), ("tolls", 5, (0,))):
            tree = ("need", 0, (("need", 1, (leaf, ("tolls", 5, (0,)))), ("tolls", 0, ())))
            self.assertEqual(self.part((index, tree), needs, worths), "tree")

    def test_form(self):
        for paper in (None, 0, True, "ab", (), [], {}, (self.INDEXES,), (self.INDEXES, self.TREE, ()),
                      [self.INDEXES, self.TREE], Oddity(), Thorny()):
            self.assertEqual(self.part(paper), "form")

    def test_indexes(self):
        for wrong in (None, 0, True, "x", [], {}, [*self.INDEXES], (*self.INDEXES, ()), (None,), (((2, "up"),),),
                      self.INDEXES * 2, Oddity(), Thorny(), (Oddity(),), (Thorny(),), ((),)):
            for tree in (self.TREE, None):
                self.assertEqual(self.part((wrong, tree)), "indexes")
        for k in range(1, 7):
            self.good((self.INDEXES * k, self.TREE), 12, k=k)
            self.assertEqual(self.part((self.INDEXES * (k + 1), self.TREE), k=k), "indexes")
        # those that meet too little leave all WORTHS to be shown
        self.assertEqual(self.part(((), self.TREE)), "tree")
        self.assertEqual(self.part(((((1, "up"),),), self.TREE)), "tree")

    def test_tree(self):
        needs, worths, index = ((ONE,), (TWO,)), (5, 3), (((0, "up"),),)
        leaf, end = ("tolls", 0, (5,)), ("apart", (0, 1))
        tree = ("need", 0, (("need", 1, (end, leaf)), ("tolls", 0, ())))
        self.good((index, tree), 5, needs, worths)

        def with_ends(one, two, three):
            return ("need", 0, (("need", 1, (one, two)), three))
        for wrong in (None, 0, True, "x", (), [], {}, ("tolls",), ("tolls", 0), ("apart",), ("need",), [*tree],
                      ("Need", *tree[1:]), ("need", True, tree[2]), ("need", 2, tree[2]), ("need", -1, tree[2]),
                      ("need", None, tree[2]), ("need", 0, ()), ("need", 0, tree[2][:1]), ("need", 0, tree[2] * 2),
                      ("need", 0, [*tree[2]]), ("need", 0, tree[2], 0), ("need", 1, tree[2]), (b"need", *tree[1:]),
                      ("need", 0, (("need", 0, (end, leaf)), ("tolls", 0, ()))), Oddity(), Thorny(), ("need", Oddity(), ()),
                      ("need", 0, Oddity()), ("need", 0, (Thorny(), Thorny())), (Oddity(), 0, tree[2]), (None, 0, tree[2])):
            self.assertEqual(self.part((index, wrong), needs, worths), "tree")
        for wrong in (None, (), ("Apart", (0, 1)), ("apart", (0, 1), 0), ("apart", 1), ("apart", None), ("apart", ()),
                      ("apart", (0,)), ("apart", (1, 0)), ("apart", (0, 0)), ("apart", (0, 2)), ("apart", (-1, 0)),
                      ("apart", (False, 1)), ("apart", (0, True)), ("apart", [0, 1]), ("apart", (0, "1")), ("apart", "01"),
                      ("apart", (0, 1, 2)), ("apart", Oddity()), ("apart", (0, Thorny())), ("apart", Thorny()),
                      ("tolls", (0, 1)), (b"apart", (0, 1))):
            self.assertEqual(self.part((index, with_ends(wrong, leaf, ("tolls", 0, ()))), needs, worths), "tree", wrong)
        for wrong in (None, (), ("Tolls", 0, (5,)), ("tolls", 0, (5,), 0), ("tolls", -1, (6,)), ("tolls", True, (4,)),
                      ("tolls", None, (5,)), ("tolls", "0", (5,)), ("tolls", 0, ()), ("tolls", 0, (5, 0)), ("tolls", 0, (4,)),
                      ("tolls", 1, (5,)), ("tolls", 0, (6,)), ("tolls", 4, (0,)), ("tolls", 0, (True,)), ("tolls", 0, [5]),
                      ("tolls", 0, (-1,)), ("tolls", 0, ("5",)), ("tolls", 0, 5), ("tolls", 0, None), ("apart", 0, (5,)),
                      ("tolls", Oddity(), (5,)), ("tolls", 0, Oddity()), ("tolls", 0, (Thorny(),)), ("tolls", Thorny(), (5,)),
                      ("apart", (0,)), ("apart", (0, 1))):
            self.assertEqual(self.part((index, with_ends(end, wrong, ("tolls", 0, ()))), needs, worths), "tree", wrong)
        for wrong in (("tolls", 0, (3,)), ("tolls", 3, ()), ("tolls", -1, ()), ("apart", (0, 1)), ("apart", ())):
            self.assertEqual(self.part((index, with_ends(end, leaf, wrong)), needs, worths), "tree", wrong)
        for right in (("tolls", 2, ()), ("need", 1, (("tolls", 0, (3,)), ("tolls", 5, ()))), ("need", 1, (("tolls", 3, (2,)),
                                                                                                         ("tolls", 0, ())))):
            self.good((index, with_ends(end, leaf, right)), 5, needs, worths)

    def due(self, columns, needs, worths, k, paper):
        """By the definitions: the part that is due of a PAPER, or None of one that holds."""
        if type(paper) is not tuple or len(paper) != 2:
            return "form"
        indexes, tree = paper
        if not are_indexes(indexes, columns, k):
            return "indexes"
        best = sum(worth for worth, need in zip(worths, needs)
                   if any(SERVED[columns][lookup] & set(indexes) for lookup in need))
        return None if is_tree(needs, worths, k, best, {}, tree) else "tree"

    def test_changed_papers(self):
        tried = [(2, self.NEEDS, self.WORTHS, 1), (2, ((ONE,), (TWO,), (ONE, TWO)), (4, 4, 1), 1),
                 (2, ((ONE,), (ONE,), (TWO,)), (4, 4, 7), 1)]
        for at, (columns, needs) in enumerate(SMALL[8:63:4]):
            tried.append((columns, needs, some_worths(len(needs), at)[at % 7], at % 3 + 1))
        done = 0
        for columns, needs, worths, k in tried:
            paper = needbest_paper(columns, needs, worths, k)
            if len(repr(paper)) < 1200:
                done += 1
                for wrong in (paper, *changed(paper, THORNS)):
                    part = self.due(columns, needs, worths, k, wrong)
                    told = error_of(check_needbest, columns, needs, worths, k, wrong)
                    self.assertEqual(told, None if part is None else ("BadPaper", {"part": part}), wrong)
        self.assertGreater(done, 8)

    def test_drawn_trees(self):
        # whatever holds tells BEST; each leaf is drawn by itself
        source, held = Random(2), 0
        needs, worths, indexes = ((ONE,), (BOTH,), (TWO,)), (2, 1, 2), (((0, "up"), (1, "up")),)
        for _ in range(4000):
            tree = self.drawn(source, needs, {}, 1)
            part = self.due(2, needs, worths, 1, (indexes, tree))
            told = error_of(check_needbest, 2, needs, worths, 1, (indexes, tree))
            self.assertEqual(told, None if part is None else ("BadPaper", {"part": part}), tree)
            if part is None:
                held += 1
                self.assertEqual(check_needbest(2, needs, worths, 1, (indexes, tree)), bests_by_all(2, needs, worths)[0])
        self.assertGreater(held, 5)

    def drawn(self, source, needs, picked, k):
        left = [number for number in range(len(needs)) if number not in picked]
        if left and source.random() < 0.8:
            number = source.choice(left)
            return ("need", number, tuple(self.drawn(source, needs, {**picked, number: thing}, k)
                                          for thing in (*needs[number], None)))
        chosen = sorted(number for number in picked if picked[number] is not None)
        if {0, 2} <= set(chosen):
            return ("apart", tuple(source.choice(((0, 2), (0, 2), (0, 2), (0, 1), (1, 2)))))
        return ("tolls", source.choice((0, 0, 1, 2, 3)), tuple(source.randint(0, 2) for _ in chosen))


class Refused(unittest.TestCase):
    CALLS = ((best_needsum, ()), (needbest_paper, ()), (check_needbest, ("wrong",)))
    MANY = (tuple(all_lookups(3)[:24]), tuple(all_lookups(3)[:13]))

    def test_columns_and_needs(self):
        for call, rest in self.CALLS:
            for columns in (0, 9, None, True, "2", Oddity(), Thorny()):
                kind, fields = error_of(call, columns, None, None, None, *rest)
                self.assertEqual(kind, "BadNumber")
                self.assertIs(fields["given"], columns)
            for needs, number in wrong_needs((ONE, BOTH, TWO)) + [(Oddity(), None), (Thorny(), None), ((Thorny(),), 0)]:
                self.assertEqual(error_of(call, 3, needs, None, None, *rest), ("BadNeeds", {"number": number}))

    def test_worths(self):
        for call, rest in self.CALLS:
            for needs in (((ONE, BOTH), (TWO,)), self.MANY):
                for worths in (*ODD_THINGS, (1,), (1, 2, 3), (1, -1), (1, 1001), (True, 1), (1, None), [1, 2], (1, "2"),
                               ((1,), 2), Oddity(), Thorny(), (Oddity(), 1)):
                    kind, fields = error_of(call, 3, needs, worths, None, *rest)
                    self.assertEqual(kind, "BadWorths")
                    self.assertIs(fields["given"], worths)

    def test_k(self):
        for call, rest in self.CALLS:
            for needs in (((ONE, BOTH), (TWO,)), self.MANY):
                for k in (0, 7, 12, -1, True, False, None, "1", (), (1,), [], 10 ** 59, Oddity(), Thorny()):
                    kind, fields = error_of(call, 3, needs, (1, 1000), k, *rest)
                    self.assertEqual(kind, "BadNumber")
                    self.assertIs(fields["given"], k)
                told = error_of(call, 3, needs, (1, 1000), 6, *rest)
                if needs is self.MANY:
                    self.assertEqual(told, ("TooMany", {"most": 300}))
                else:
                    self.assertEqual(told, ("BadPaper", {"part": "form"}) if rest else None)

    def test_too_many(self):
        lookups = all_lookups(3)
        for sizes, told in (((24, 11), 300), ((24, 12), 325), ((11, 4, 4), 300), ((2,) * 5, 243), ((6, 6, 6), 343),
                            ((13, 20), 294), ((6, 42 - 19), 168), ((1,) * 6, 64), ((1, 1, 1, 1, 2, 5), 288),
                            ((1, 1, 1, 1, 2, 6), 336), ((24,) * 6, 25 ** 6), ((3, 3, 3, 3), 256), ((6, 6, 5), 294),
                            ((15, 18), 304), ((1, 1, 1, 37 - 18), 160)):
            needs = tuple(tuple(lookups[:size]) for size in sizes)
            worths = tuple(range(len(needs)))
            wanted = ("TooMany", {"most": 300}) if told > 300 else None
            self.assertEqual(error_of(best_needsum, 3, needs, worths, 2), wanted)
            self.assertEqual(error_of(needbest_paper, 3, needs, worths, 2), wanted)
            self.assertEqual(error_of(check_needbest, 3, needs, worths, 2, None), wanted or ("BadPaper", {"part": "form"}))


if __name__ == "__main__":
    unittest.main()
