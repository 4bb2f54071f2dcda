"""fewindexes/needs.py: NEEDS, met, the least number, its PAPER (points 24, 25)."""

import unittest
from itertools import combinations, product
from random import Random
from time import perf_counter

from fewindexes.covering import fewest
from fewindexes.needs import check_needs, do_meet, least_for, needs_paper
from cases import (THORNS, Oddity, Thorny, all_indexes, all_lookups, are_indexes, changed, error_of, fit_by_fact,
                   served_table, serves_by_fact, some_demands)
from need_cases import met_by, some_needs

SERVED = {columns: served_table(columns) for columns in (1, 2, 3)}
ONE, TWO, BOTH = ((0,), ()), ((1,), ()), ((0, 1), ())


SMALL = ([(1, needs) for needs in some_needs(1, ((1,), (3,), (2, 1), (1, 2, 3), (2, 2, 2, 1, 1, 1)), 12, 1)]
         + [(2, needs) for needs in some_needs(2, ((1,), (12,), (4, 3), (2, 1, 5), (1, 1, 1, 1), (2, 3, 2, 2)), 40, 2)]
         + [(3, needs) for needs in some_needs(3, ((2, 3, 4), (24,), (24, 12), (3, 3, 3, 3), (2, 2, 2, 2, 2, 2),
                                                   (1, 1, 1, 1, 1, 1)), 40, 3)])
BIG = ([(8, needs) for needs in some_needs(8, ((24, 12), (2, 2, 2, 2, 3, 6), (3, 3, 3, 3, 3, 1), (12, 24)), 10, 4)]
       + [(4, needs) for needs in some_needs(4, ((5, 5, 4, 3), (2, 2, 2, 2, 3, 6), (10, 10, 3)), 12, 5)])


def least_by_all_indexes(columns, needs):
    """The least number, by trying all INDEXES."""
    masks = {0}
    kinds = set()
    for index in all_indexes(columns):
        kinds.add(sum(1 << at for at, need in enumerate(needs) if any(index in SERVED[columns][one] for one in need)))
    many = 0
    while (1 << len(needs)) - 1 not in masks:
        masks = {mask | kind for mask in masks for kind in kinds}
        many += 1
    return many


def lots_of(chosen):
    """All lots of places of LOOKUPS, no two of which fit."""
    lots = [()]
    for place, lookup in enumerate(chosen):
        lots += [(*lot, place) for lot in lots
                 if not any(chosen[at] == lookup or fit_by_fact(chosen[at], lookup) for at in lot)]
    return lots


def least_by_choices(needs):
    """The Fact of point 24: the least one, over all CHOICES, of the greatest numbers of LOOKUPS that are apart."""
    return min(max(map(len, lots_of(choice))) for choice in product(*needs))


class Least(unittest.TestCase):
    def test_beside_all_indexes(self):
        for columns, needs in SMALL:
            self.assertEqual(least_for(columns, needs), least_by_all_indexes(columns, needs), needs)

    def test_beside_all_choices(self):
        for columns, needs in SMALL + BIG:
            self.assertEqual(least_for(columns, needs), least_by_choices(needs), needs)

    def test_needs_with_one_lookup_are_a_demand(self):
        for columns, lookups in some_demands(5, (1, 3, 6), 40, 9):
            needs = tuple((lookup,) for lookup in lookups)
            self.assertEqual(least_for(columns, needs), fewest((columns, lookups)))
            self.assertEqual(least_for(columns, needs[::-1]), fewest((columns, lookups)))

    def test_by_hand(self):
        self.assertEqual(least_for(2, ((ONE,), (TWO,))), 2)
        self.assertEqual(least_for(2, ((ONE, TWO), (TWO,))), 1)
        self.assertEqual(least_for(2, ((ONE,), (ONE,), (ONE,))), 1)
        self.assertEqual(least_for(2, ((ONE,), (ONE, BOTH), (BOTH,), (TWO,))), 2)
        self.assertEqual(least_for(8, tuple((((column,), ()),) for column in range(6))), 6)

    def test_the_told_paper_holds(self):
        for columns, needs in SMALL + BIG:
            indexes, tree = paper = needs_paper(columns, needs)
            many = least_for(columns, needs)
            self.assertEqual(check_needs(columns, needs, paper), many)
            self.assertEqual(len(indexes), many)
            for need in needs:
                self.assertTrue(any(serves_by_fact(index, lookup) for index in indexes for lookup in need))
            self.assertTrue(is_tree(needs, many, {}, tree))

    def test_three_hundred_choices_in_reasonable_time(self):
        source = Random(7)
        began = perf_counter()
        for sizes in ((2, 2, 3, 5, 5), (24, 12), (2, 2, 3, 5, 5, 1), (12, 5, 5), (1, 1, 2, 6, 5, 5)):
            needs = tuple(tuple(sorted(source.sample(all_lookups(3), size))) for size in sizes)
            paper = needs_paper(3, needs)
            self.assertEqual(check_needs(3, needs, paper), least_for(3, needs))
        # of five LOOKUPS, whichever they are, no two fit: only at the ends of the TREE there are enough
        whole = tuple(tuple(sorted(((column,), ((other, "up"),)) for other in (6, 7, 5)[:many]))
                      for column, many in enumerate((2, 2, 3, 3, 3)))
        paper = needs_paper(8, whole)
        self.assertEqual(check_needs(8, whole, paper), 5)
        self.assertLess(perf_counter() - began, 60)


def is_tree(needs, many, chosen, tree):
    """Point 25, of a thing of any kind: whether it is a TREE behind the LOOKUPS that are chosen."""
    if type(tree) is not tuple or not tree or type(tree[0]) is not str:
        return False
    if tree[0] == "most":
        return len(tree) == 2 and is_most(many, chosen, tree[1])
    if tree[0] != "need" or len(tree) != 3:
        return False
    number, trees = tree[1:]
    if type(number) is not int or number not in range(len(needs)) or number in chosen or type(trees) is not tuple:
        return False
    return len(trees) == len(needs[number]) and all(is_tree(needs, many, {**chosen, number: lookup}, part)
                                                    for lookup, part in zip(needs[number], trees))


def is_most(many, chosen, numbers):
    if type(numbers) is not tuple or len(numbers) != many or not all(type(number) is int for number in numbers):
        return False
    if list(numbers) != sorted(set(numbers)) or not set(numbers) <= set(chosen):
        return False
    return not any(fit_by_fact(chosen[one], chosen[other]) for one, other in combinations(numbers, 2))


class Meet(unittest.TestCase):
    def test_beside_the_words(self):
        source = Random(4)
        for columns, needs in SMALL:
            for many in (0, 1, 2, 3, 12):
                indexes = tuple(source.choice(all_indexes(columns)) for _ in range(many))
                self.assertIs(do_meet(columns, needs, indexes), met_by(SERVED[columns], needs, indexes))
            for index in all_indexes(columns)[::5]:
                self.assertIs(do_meet(columns, needs, (index,)), met_by(SERVED[columns], needs, (index,)))

    def test_by_hand(self):
        one, two, both = ((0, "up"),), ((1, "down"),), ((1, "up"), (0, "up"))
        self.assertIs(do_meet(2, ((ONE, TWO),), ()), False)
        self.assertIs(do_meet(2, ((ONE, TWO),), (two,)), True)
        self.assertIs(do_meet(2, ((ONE,), (TWO,)), (both,)), False)
        self.assertIs(do_meet(2, ((ONE,), (TWO,)), (both, one)), True)
        self.assertIs(do_meet(2, ((BOTH,), (TWO,)), (both,)), True)

    def test_indexes(self):
        one = ((0, "up"),)
        for indexes in (None, 0, True, "x", [], [one], {}, (one,) * 13, (None,) * 13, Oddity(), Thorny()):
            self.assertEqual(error_of(do_meet, 2, ((ONE,),), indexes), ("BadIndexes", {"number": None}))
        for wrong in (None, 0, True, "x", (), [], {}, [(0, "up")], ((2, "up"),), ((True, "up"),), ((0, "up"),) * 2,
                      ((0, "Up"),), (0, "up"), Oddity(), Thorny(), (Thorny(),)):
            self.assertEqual(error_of(do_meet, 2, ((ONE,),), (wrong,)), ("BadIndexes", {"number": 0}))
            self.assertEqual(error_of(do_meet, 2, ((ONE,),), (one, one, wrong, None)), ("BadIndexes", {"number": 2}))
            self.assertEqual(error_of(do_meet, 2, ((ONE,),), (one,) * 11 + (wrong,)), ("BadIndexes", {"number": 11}))


class Refused(unittest.TestCase):
    def calls(self):
        return ((do_meet, ("wrong",)), (least_for, ()), (needs_paper, ()), (check_needs, ("wrong",)))

    def test_needs(self):
        good = (ONE, BOTH, TWO)
        many = tuple(all_lookups(3)[:25])
        wrong = [(whole, None) for whole in (None, 0, True, "x", [], [(ONE,)], {}, (), ((ONE,),) * 7, Oddity(), Thorny(),
                                             (None,) * 7)]
        for need in (None, 0, True, "x", (), [], {}, [ONE], (ONE, ONE), (TWO, ONE), (ONE, None), (None,), (((), ()),),
                     (((3,), ()),), (((True,), ()),), (ONE, [(1,), ()]), many, Oddity(), Thorny(), (Oddity(),),
                     (Thorny(), ONE), ONE):
            wrong += [((need,), 0), ((good, need), 1), ((good,) * 5 + (need,), 5), ((good, need, None), 1)]
        for needs, number in wrong:
            for call, rest in self.calls():
                self.assertEqual(error_of(call, 3, needs, *rest), ("BadNeeds", {"number": number}), needs)
        for call, rest in self.calls():
            for columns in (0, 9, None, True, "2", Oddity()):
                kind, fields = error_of(call, columns, None, *rest)
                self.assertEqual(kind, "BadNumber")
                self.assertIs(fields["given"], columns)
        self.assertEqual(least_for(3, (many[:24],)), 1)

    def test_too_many(self):
        lookups = all_lookups(3)
        for sizes, told in (((24, 12), 288), ((24, 13), 312), ((12, 5, 5), 300), ((7, 6, 7), 294),
                            ((16, 19), 304), ((7, 7, 7), 343), ((4, 4, 4, 4, 2), 512), ((24,) * 6, 24 ** 6), ((5, 5, 3, 2, 2, 1), 300)):
            needs = tuple(tuple(lookups[:size]) for size in sizes)
            wanted = ("TooMany", {"most": 300}) if told > 300 else None
            self.assertEqual(error_of(least_for, 3, needs), wanted)
            self.assertEqual(error_of(needs_paper, 3, needs), wanted)
            self.assertEqual(error_of(check_needs, 3, needs, None), wanted or ("BadPaper", {"part": "form"}))
            self.assertIs(do_meet(3, needs, (((0, "up"),),)), do_meet(3, needs[:1], (((0, "up"),),)))
            self.assertEqual(error_of(do_meet, 3, needs, None), ("BadIndexes", {"number": None}))
            # what is no NEED comes ahead, wherever it stands
            self.assertEqual(error_of(check_needs, 3, needs[:5] + (None,), None), ("BadNeeds", {"number": len(needs[:5])}))


class CheckNeeds(unittest.TestCase):
    NEEDS = ((ONE, BOTH), (((), ((1, "up"),)), TWO), (ONE,))
    INDEXES = (((0, "up"),), ((1, "up"),))
    END = ("most", (0, 1))
    TREE = ("need", 2, (("need", 1, (("most", (1, 2)), ("most", (1, 2)))),))

    def part(self, paper, needs=NEEDS):
        name, fields = error_of(check_needs, 2, needs, paper)
        self.assertEqual(name, "BadPaper")
        return fields["part"]

    def test_right_ones(self):
        other = ("need", 1, (("need", 2, (("most", (1, 2)),)), ("need", 2, (("most", (1, 2)),))))
        asked = ("need", 0, (self.TREE, self.TREE))
        for tree in (self.TREE, other, asked):
            for indexes in (self.INDEXES, self.INDEXES[::-1], (((0, "down"), (1, "up")), ((1, "down"), (0, "up")))):
                self.assertEqual(check_needs(2, self.NEEDS, (indexes, tree)), 2)
        # a NEED is asked for behind others, and what was chosen for it counts where it is asked
        tree = ("need", 1, (("need", 0, (("most", (0, 1)), ("need", 2, (("most", (1, 2)),)))),) * 2)
        self.assertEqual(check_needs(2, self.NEEDS, (self.INDEXES, tree)), 2)

    def test_form(self):
        for paper in (None, 0, True, "ab", (), [], {}, (self.INDEXES,), (self.INDEXES, self.TREE, ()),
                      [self.INDEXES, self.TREE], Oddity(), Thorny()):
            self.assertEqual(self.part(paper), "form")

    def test_indexes(self):
        for wrong in (None, 0, True, "x", [], {}, (), self.INDEXES[:1], self.INDEXES[1:], [*self.INDEXES],
                      (*self.INDEXES, ()), (*self.INDEXES, None), (*self.INDEXES, ((2, "up"),)), Oddity(), Thorny(),
                      (Oddity(),), (Thorny(), *self.INDEXES), (((0, "up"), (1, "up")),) * 20):
            for tree in (self.TREE, None):
                self.assertEqual(self.part((wrong, tree)), "indexes")

    def test_tree(self):
        end = ("most", (1, 2))
        for wrong in (
            None, 0, True, "need", (), [], {}, end, ("most", ()), ("need", 2), ("need", 2, (end,), ()), [*self.TREE],
            ("Need", *self.TREE[1:]), ("need", True, self.TREE[2]), ("need", 3, (end,)), ("need", -1, (end,)),
            ("need", None, (end,)), ("need", (2,), (end,)), ("need", 2, ()), ("need", 2, self.TREE[2] * 2),
            ("need", 2, [*self.TREE[2]]), ("need", 2, (("need", 2, self.TREE[2]),)), ("need", 2, None),
            ("need", 2, (("need", 1, (end,)),)), ("need", 2, (("need", 1, (end, end, end)),)), (b"need", 2, (end,)),
            ("need", 2, (("need", 1, (end, None)),)), ("need", 2, (("need", 1, (end, ("most", [1, 2]))),)),
            ("need", 2, (("need", 1, (("most", (1, 2), 0), end)),)), Oddity(), Thorny(), ("need", Oddity(), (end,)),
            ("need", 2, Oddity()), ("need", 2, (Thorny(),)), ("need", 2, (("need", 1, (end, Thorny())),)),
            (Oddity(), 2, (end,)), (Thorny(), 2, (end,)), (None, 2, (end,)), ("most", 2, (end,)), ("need", (1, 2)),
        ):
            self.assertEqual(self.part((self.INDEXES, wrong)), "tree")
        for numbers in (None, 0, (), (1,), (2,), (2, 1), (1, 1), (0, 1), (0, 2), (1, 2, 2), (0, 1, 2), (True, 2), (1, 3),
                        (-1, 2), (1, "2"), [1, 2], (1, None), "12", Oddity(), Thorny(), (1, Oddity()), (Thorny(), 2)):
            for at in range(2):
                ends = [end, end]
                ends[at] = ("most", numbers)
                self.assertEqual(self.part((self.INDEXES, ("need", 2, (("need", 1, tuple(ends)),)))), "tree")
        # more INDEXES than there are numbers, and the other way round
        self.assertEqual(self.part((self.INDEXES + self.INDEXES[:1], self.TREE)), "tree")
        self.assertEqual(self.part((self.INDEXES * 8, self.TREE)), "tree")

    def test_one_lookup_twice_and_lookups_that_fit(self):
        needs = ((ONE,), (ONE,), (BOTH,))
        index = ((0, "up"), (1, "up"))
        for tree in (("need", 0, (("need", 1, (("most", (0, 1)),)),)), ("need", 0, (("need", 2, (("most", (0, 2)),)),))):
            self.assertEqual(error_of(check_needs, 2, needs, ((index, index), tree)), ("BadPaper", {"part": "tree"}))
        for number in range(3):
            self.assertEqual(check_needs(2, needs, ((index,), ("need", number, (("most", (number,)),)))), 1)

    def due(self, columns, needs, paper):
        """By the definitions: the part that is due of a PAPER, or None of one that holds."""
        if type(paper) is not tuple or len(paper) != 2:
            return "form"
        indexes, tree = paper
        if not are_indexes(indexes, columns) or not met_by(SERVED[columns], needs, indexes):
            return "indexes"
        return None if is_tree(needs, len(indexes), {}, tree) else "tree"

    def test_changed_papers(self):
        for columns, needs in [(2, self.NEEDS), (2, ((ONE,), (TWO,), (ONE, TWO)))] + SMALL[12:92:7]:
            paper = needs_paper(columns, needs)
            if len(repr(paper)) < 2500:
                for wrong in (paper, *changed(paper, THORNS)):
                    part = self.due(columns, needs, wrong)
                    told = error_of(check_needs, columns, needs, wrong)
                    self.assertEqual(told, None if part is None else ("BadPaper", {"part": part}), wrong)


if __name__ == "__main__":
    unittest.main()
