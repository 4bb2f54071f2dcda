"""fewindexes/tells.py: TELLS, obeys, CLOSURES, CUTS, CLOSED SETS (points 20, 21)."""

import unittest

from fewindexes.demands import sets_of
from fewindexes.tells import closed_sets, closure, cut_steps, does_obey, need_tells
from cases import Oddity, Thorny, all_lookups, all_lots, all_tables, error_of, some_demands
from told_cases import (all_pairs, all_tells, closed_by_words, closure_by_pairs, closure_by_tables, cut_by_words,
                        kinds_of_tells, obeys_by_rows, some_tells)

PAIR = ((0,), (1,))


class NeedTells(unittest.TestCase):
    def test_itself(self):
        eight = tuple(sorted(all_pairs(2))[:8])
        for tells in ((), (PAIR,), (((), (0, 1)),), (((), (0,)), ((0,), (0,)), PAIR), eight):
            self.assertIs(need_tells(2, tells), tells)
        for tells in all_tells(2, 2):
            self.assertIs(need_tells(2, tells), tells)

    def test_what_is_none(self):
        nine = tuple(sorted(all_pairs(2))[:9])
        for thing in (None, 0, True, "x", [], [PAIR], {}, nine, (None,) * 9, Oddity(), Thorny()):
            self.assertEqual(error_of(need_tells, 2, thing), ("BadTells", {"number": None}))
        for pair in (None, 0, True, "xy", (), [], {}, ((0,),), ((0,), (1,), ()), [(0,), (1,)], ((0,), ()), ((), ()),
                     ((2,), (0,)), ((0,), (2,)), ((0, 0), (1,)), ((1, 0), (1,)), ((0,), (1, 0)), ((True,), (1,)),
                     ((0,), (True,)), (0, 1), ((0,), 1), ([0], (1,)), ((0,), [1]), ((-1,), (0,)), ((0,), None),
                     (None, (0,)), (Oddity(), (1,)), ((0,), Thorny()), ((Thorny(),), (1,)), Oddity(), Thorny()):
            self.assertEqual(error_of(need_tells, 2, (pair,)), ("BadTells", {"number": 0}), pair)
            self.assertEqual(error_of(need_tells, 2, (PAIR, pair)), ("BadTells", {"number": 1}), pair)
            self.assertEqual(error_of(need_tells, 2, (PAIR, ((1,), (0,)), pair, None)), ("BadTells", {"number": 2}))
        for tells, number in (((PAIR, PAIR), 1), ((((1,), (0,)), PAIR), 1), ((((), (0,)), PAIR, ((0,), (0, 1))), 2),
                              ((PAIR, ((0,), (0,)), None), 1)):
            self.assertEqual(error_of(need_tells, 2, tells), ("BadTells", {"number": number}))

    def test_columns_first(self):
        for columns in (0, 9, True, None, [2], Oddity()):
            kind, fields = error_of(need_tells, columns, None)
            self.assertEqual(kind, "BadNumber")
            self.assertIs(fields["given"], columns)


class Closure(unittest.TestCase):
    def test_beside_all_tables_of_two_rows(self):
        for columns, told in ((1, all_tells(1, 2)), (2, all_tells(2, 2)), (3, some_tells(3, 40, 1)),
                              (3, kinds_of_tells(3, 2)), (4, some_tells(4, 12, 2))):
            for tells in told:
                for lot in all_lots(columns):
                    self.assertEqual(closure(columns, tells, lot), closure_by_tables(columns, tells, lot), (tells, lot))

    def test_beside_the_pairs(self):
        for tells in some_tells(8, 80, 3):
            for lot in all_lots(8)[::5]:
                self.assertEqual(closure(8, tells, lot), tuple(sorted(closure_by_pairs(tells, lot))))

    def test_by_hand(self):
        chain = (((0,), (1,)), ((1,), (2,)), ((2, 3), (4,)), ((5,), (0, 3)))
        self.assertEqual(closure(6, chain, ()), ())
        self.assertEqual(closure(6, chain, (0,)), (0, 1, 2))
        self.assertEqual(closure(6, chain, (1, 3)), (1, 2, 3, 4))
        self.assertEqual(closure(6, chain, (5,)), (0, 1, 2, 3, 4, 5))
        # pairs that lead on to one another, the last of them first
        back = (((1,), (0,)), ((2,), (1,)), ((3,), (2,)), ((4,), (3,)))
        self.assertEqual(closure(5, back, (4,)), (0, 1, 2, 3, 4))
        self.assertEqual(closure(2, (((), (1,)), ((1,), (0,))), ()), (0, 1))
        self.assertEqual(closure(8, (), (0, 7)), (0, 7))

    def test_lot(self):
        for lot in (None, 0, True, "0", [0], {}, (2,), (-1,), (1, 0), (0, 0), (True,), ("0",), (None,), ((0,),),
                    Oddity(), Thorny(), (Thorny(),)):
            kind, fields = error_of(closure, 2, (PAIR,), lot)
            self.assertEqual(kind, "BadLot")
            self.assertIs(fields["given"], lot)
        self.assertEqual(error_of(closure, 2, None, None), ("BadTells", {"number": None}))
        self.assertEqual(error_of(closure, 9, None, None), ("BadNumber", {"given": 9}))


class Obey(unittest.TestCase):
    def test_beside_the_rows(self):
        for columns, told, tables in ((1, all_tells(1, 2), all_tables(1, range(3), 3)),
                                      (2, all_tells(2, 1), all_tables(2, range(2), 4)),
                                      (3, some_tells(3, 15, 4, 3), all_tables(3, range(2), 3))):
            for tells in told:
                for table in tables:
                    self.assertIs(does_obey(columns, tells, table), obeys_by_rows(tells, table))

    def test_by_hand(self):
        key = (((0,), (1, 2)),)
        self.assertIs(does_obey(3, key, ()), True)
        self.assertIs(does_obey(3, key, ((0, 0, 0), (1, 0, 0))), True)
        self.assertIs(does_obey(3, key, ((0, 0, 0), (0, 0, 0))), True)
        self.assertIs(does_obey(3, key, ((0, 0, 0), (0, 0, 1))), False)
        self.assertIs(does_obey(2, (((), (0,)),), ((5, 0), (5, 1))), True)
        self.assertIs(does_obey(2, (((), (0,)),), ((5, 0), (6, 0))), False)
        self.assertIs(does_obey(2, (((), (0,)),), ()), True)
        thirty = tuple((at, at * at) for at in range(30))
        self.assertIs(does_obey(2, (((0,), (1,)), ((1,), (0,))), thirty), True)
        self.assertIs(does_obey(2, (((0,), (1,)), ((1,), (0,))), ((-1, 1), *thirty[1:])), False)

    def test_errors_in_turn(self):
        for table in (None, [], ((0,),), ((0, 1), (0, 0)), ((0, True),), ((0, 0),) * 31, Oddity(), Thorny()):
            kind, fields = error_of(does_obey, 2, (PAIR,), table)
            self.assertEqual(kind, "BadTable")
            self.assertIs(fields["given"], table)
        self.assertEqual(error_of(does_obey, 2, (None,), None), ("BadTells", {"number": 0}))
        self.assertEqual(error_of(does_obey, 0, (None,), None), ("BadNumber", {"given": 0}))


class Cuts(unittest.TestCase):
    def held(self, columns, tells, lookup):
        told, cut = closed_sets(columns, tells, lookup), cut_steps(columns, tells, lookup)
        self.assertEqual(told, tuple(closed_by_words(tells, lookup)), (tells, lookup))
        self.assertEqual(cut, cut_by_words(tells, *lookup), (tells, lookup))
        self.assertEqual(len(told), len(cut) + 1)

    def test_beside_the_words(self):
        for columns, told in ((1, all_tells(1, 2)), (2, all_tells(2, 1)), (3, kinds_of_tells(3, 2)[::3])):
            for tells in told:
                for lookup in all_lookups(columns):
                    self.held(columns, tells, lookup)
        for tells in some_tells(8, 30, 5):
            for demand in some_demands(8, (12,), 4, len(tells)):
                for lookup in demand[1]:
                    self.held(8, tells, lookup)

    def test_without_tells(self):
        for lookup in all_lookups(3):
            self.assertEqual(cut_steps(3, (), lookup), lookup[1])
            self.assertEqual(closed_sets(3, (), lookup), sets_of(3, lookup))

    def test_by_hand(self):
        tells = (((), (4,)), ((0,), (1, 2)))
        lookup = ((), ((4, "up"), (0, "down"), (1, "up"), (3, "up"), (2, "down")))
        self.assertEqual(cut_steps(5, tells, lookup), ((0, "down"), (3, "up")))
        self.assertEqual(closed_sets(5, tells, lookup), ((4,), (0, 1, 2, 4), (0, 1, 2, 3, 4)))
        # the column that stands ahead of what tells it stays
        lookup = ((3,), ((1, "up"), (0, "up"), (2, "up")))
        self.assertEqual(cut_steps(5, tells, lookup), ((1, "up"), (0, "up")))
        self.assertEqual(closed_sets(5, tells, lookup), ((3, 4), (1, 3, 4), (0, 1, 2, 3, 4)))
        self.assertEqual(cut_steps(5, tells, ((0,), ((1, "up"), (4, "up")))), ())
        self.assertEqual(closed_sets(5, tells, ((4,), ())), ((4,),))

    def test_errors_in_turn(self):
        for call in (cut_steps, closed_sets):
            for lookup in (None, (), ((), ()), ((2,), ()), ((0,), ((0, "up"),)), [(0,), ()], Oddity(), Thorny()):
                kind, fields = error_of(call, 2, (PAIR,), lookup)
                self.assertEqual(kind, "BadLookup")
                self.assertIs(fields["given"], lookup)
            self.assertEqual(error_of(call, 2, (PAIR, PAIR), None), ("BadTells", {"number": 1}))
            self.assertEqual(error_of(call, None, None, None), ("BadNumber", {"given": None}))


if __name__ == "__main__":
    unittest.main()
