"""fewindexes/indexes.py: INDEXES, BEGINNINGS, how an INDEX SERVES (points 2, 5)."""

import unittest

from fewindexes.indexes import beginnings, does_serve, need_index, served_by, way_of
from cases import (Oddity, Thorny, all_indexes, all_listings, all_lookups, all_tables, error_of, keeps,
                   serves_by_fact)

ALL_STEPS = tuple((column, "up") for column in range(8))
WAYS = ("forward", "backward")


class NeedIndex(unittest.TestCase):
    def test_itself(self):
        for columns in (1, 2, 3):
            for index in all_indexes(columns):
                self.assertIs(need_index(columns, index), index)
        self.assertIs(need_index(8, ALL_STEPS), ALL_STEPS)

    def test_columns(self):
        for columns in (0, 9, -1, True, None, "8", [8], Oddity(), Thorny()):
            for index in (ALL_STEPS, None):
                kind, fields = error_of(need_index, columns, index)
                self.assertEqual(kind, "BadNumber")
                self.assertIs(fields["given"], columns)

    def test_what_is_none(self):
        for thing in (
            (), None, 0, True, "x", [], [(0, "up")], {}, Oddity(), Thorny(), ((),), ((0, "up"), ()), ([0, "up"],),
            ((0,),), ((0, "up", 1),), (0, "up"), ((2, "up"),), ((-1, "up"),), ((True, "up"),), ((None, "up"),),
            (("0", "up"),), ((0, "Up"),), ((0, None),), ((0, True),), ((0, ["up"]),), ((0, Oddity()),),
            ((Thorny(), "up"),), ((0, Thorny()),), ((0, "up"), (0, "up")), ((0, "up"), (1, "up"), (0, "down")),
            (Oddity(),), (Thorny(),), ((0, "up"), None), ((0, b"up"),),
        ):
            kind, fields = error_of(need_index, 2, thing)
            self.assertEqual(kind, "BadIndex")
            self.assertIs(fields["given"], thing)
        self.assertEqual(error_of(need_index, 7, ALL_STEPS)[0], "BadIndex")
        self.assertEqual(error_of(need_index, 8, (*ALL_STEPS, (0, "up")))[0], "BadIndex")


class Beginnings(unittest.TestCase):
    def test_by_hand(self):
        self.assertEqual(beginnings(1, ((0, "down"),)), ((), (0,)))
        self.assertEqual(beginnings(4, ((2, "up"), (0, "down"), (3, "up"))), ((), (2,), (0, 2), (0, 2, 3)))
        self.assertEqual(beginnings(8, ALL_STEPS)[-1], tuple(range(8)))

    def test_of_all(self):
        for index in all_indexes(3):
            told = beginnings(3, index)
            self.assertEqual(told, tuple(tuple(sorted(step[0] for step in index[:many]))
                                         for many in range(len(index) + 1)))

    def test_errors_in_turn(self):
        self.assertEqual(error_of(beginnings, True, ()), ("BadNumber", {"given": True}))
        self.assertEqual(error_of(beginnings, 1, ()), ("BadIndex", {"given": ()}))


class Serving(unittest.TestCase):
    def tried(self, columns, tables):
        """What way_of tells of all, held beside these TABLES: each of them breaks what it is not told to keep."""
        lookups = all_lookups(columns)
        for index in all_indexes(columns):
            told = {lookup: way_of(columns, index, lookup) for lookup in lookups}
            kept = {lookup: list(WAYS) for lookup in lookups}
            for table in tables:
                listings = all_listings(table, index)
                for lookup, ways in kept.items():
                    ways[:] = [way for way in ways if keeps(listings, lookup, way)]
            for lookup, ways in kept.items():
                self.assertEqual(told[lookup], ways[0] if ways else None, (index, lookup))

    def test_beside_the_definition_one_column(self):
        self.tried(1, all_tables(1, range(-2, 3), 3))

    def test_beside_the_definition_two_columns(self):
        self.tried(2, all_tables(2, range(-2, 3), 3))

    def test_beside_the_definition_three_columns(self):
        # 0 to 1 for all three rows, and 0 to 2 where the last column hardly matters, keep this short
        wide = [table for table in all_tables(3, range(3), 3)
                if len(table) == 3 and {row[0] for row in table} | {row[1] for row in table} == {0, 1, 2}]
        self.tried(3, all_tables(3, range(2), 3) + wide[::5])

    def test_beside_the_fact(self):
        for columns in (1, 2, 3):
            for index in all_indexes(columns):
                for lookup in all_lookups(columns):
                    way = way_of(columns, index, lookup)
                    self.assertEqual(way is not None, serves_by_fact(index, lookup), (index, lookup))
                    self.assertIs(does_serve(columns, index, lookup), way is not None)
                    if way is not None and len(lookup[1]) == 0:
                        self.assertEqual(way, "forward")

    def test_by_hand(self):
        index = ((2, "up"), (0, "down"), (1, "up"))
        for lookup, way in (
            (((2,), ((0, "down"), (1, "up"))), "forward"), (((2,), ((0, "up"), (1, "down"))), "backward"),
            (((2,), ((0, "down"), (1, "down"))), None), (((0, 2), ()), "forward"), (((0,), ()), None),
            (((), ((2, "down"),)), "backward"), (((), ((2, "up"),)), "forward"), (((0, 1, 2), ()), "forward"),
            (((0, 1, 2), ((3, "up"),)), None), (((0, 1, 2, 3), ()), None), (((1, 2), ()), None),
        ):
            self.assertEqual(way_of(4, index, lookup), way, lookup)

    def test_eight_columns(self):
        down = tuple((column, "down") for column in range(8))
        self.assertEqual(way_of(8, ALL_STEPS, ((), down)), "backward")
        self.assertEqual(way_of(8, ALL_STEPS, ((), (*down[:7], (7, "up")))), None)
        self.assertEqual(way_of(8, ALL_STEPS, (tuple(range(8)), ())), "forward")

    def test_errors_in_turn(self):
        good, lookup = ((0, "up"),), ((0,), ())
        for call in (way_of, does_serve):
            self.assertEqual(error_of(call, 0, None, None), ("BadNumber", {"given": 0}))
            self.assertEqual(error_of(call, 1, None, None), ("BadIndex", {"given": None}))
            self.assertEqual(error_of(call, 1, good, None), ("BadLookup", {"given": None}))
            self.assertEqual(error_of(call, 1, good, ((1,), ())), ("BadLookup", {"given": ((1,), ())}))
            self.assertIsNone(error_of(call, 1, good, lookup))


class ServedBy(unittest.TestCase):
    def test_beside_the_fact(self):
        lookups = all_lookups(3)
        for step in (9, 11, 13):
            demand = (3, tuple(lookups[::step][:12]))
            for index in all_indexes(3):
                told = served_by(demand, index)
                self.assertIs(type(told), tuple)
                self.assertEqual(told, tuple(number for number, lookup in enumerate(demand[1])
                                             if serves_by_fact(index, lookup)))

    def test_none_and_all(self):
        demand = (2, (((), ((0, "up"),)), ((0,), ()), ((0,), ((1, "down"),))))
        self.assertEqual(served_by(demand, ((0, "up"), (1, "up"))), (0, 1, 2))
        self.assertEqual(served_by(demand, ((0, "up"),)), (0, 1))
        self.assertEqual(served_by(demand, ((1, "up"),)), ())

    def test_errors_in_turn(self):
        self.assertEqual(error_of(served_by, None, None), ("BadDemand", {"part": "form"}))
        demand = (2, (((0,), ()),))
        for index in (None, (), ((2, "up"),)):
            self.assertEqual(error_of(served_by, demand, index), ("BadIndex", {"given": index}))


if __name__ == "__main__":
    unittest.main()
