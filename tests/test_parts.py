"""fewindexes/parts.py: PARTS, what does them, their LOOKUPS, free, hard (points 27, 28, 29)."""

import unittest
from random import Random

from fewindexes.parts import does_do, is_done, is_hard, lookups_for, need_part, undone_table
from cases import (ODD_THINGS, Oddity, Thorny, all_indexes, all_listings, all_tables, error_of, served_table,
                   serves_by_fact)
from query_cases import all_parts, does_by_fact, done_ways, is_free, lookups_by_words, some_part

FREE = ((), None, (), ())
SERVED = {columns: served_table(columns) for columns in (1, 2, 3)}


class NeedPart(unittest.TestCase):
    def test_itself(self):
        for columns in (1, 2):
            for part in all_parts(columns):
                self.assertIs(need_part(columns, part), part)
        whole = ((0, 7), 3, (1, 3, 5), tuple((column, "down") for column in (6, 3, 1, 2, 4, 5)))
        self.assertIs(need_part(8, whole), whole)

    def test_three_and_four_columns_together(self):
        self.assertIsNone(error_of(need_part, 4, ((), None, (0, 1, 3), ())))
        self.assertEqual(error_of(need_part, 4, ((), None, (0, 1, 2, 3), ()))[0], "BadPart")

    def test_columns_first(self):
        for call, rest in ((need_part, ()), (lookups_for, ()), (is_hard, ())):
            for columns in (0, 9, True, None, [2], Oddity()):
                kind, fields = error_of(call, columns, None, *rest)
                self.assertEqual(kind, "BadNumber")
                self.assertIs(fields["given"], columns)

    def test_what_is_none(self):
        whole = ((0,), 1, (1, 2), ((1, "up"), (2, "down")))
        wrong = [thing for thing in (*ODD_THINGS, Oddity(), Thorny()) if thing is not FREE]
        wrong += [[*whole], whole[:3], (*whole, ()), ((),) * 3, "abcd"]
        for thing in (None, 0, True, "x", [], [0], {}, (3,), (-1,), (0, 0), (True,), ("0",), (None,), (Thorny(),),
                      Oddity(), Thorny()):
            wrong += [(thing, *whole[1:]), (whole[0], 1, thing, ((1, "up"),))]
        wrong += [((1, 0), None, (), ()), ((), None, (1, 0), ()), ((), None, (0, 1, 2, 3), ())]
        for thing in (3, -1, True, False, "1", (), (1,), [], {}, b"1", Oddity(), Thorny()):
            wrong.append(((0,), thing, (), ()))
        for thing in (None, 0, True, "up", [], {}, (1, "up"), ((1,),), ((1, "Up"),), ((3, "up"),), ((True, "up"),),
                      ((1, "up"), (1, "down")), ([1, "up"],), ((1, "up", 0),), ((None, "up"),), ((1, None),), Oddity(),
                      Thorny(), (Oddity(),), ((Thorny(), "up"),), ((1, Thorny()),)):
            wrong.append(((0,), 1, (1, 2), thing))
        # a column of EQUAL that is BETWEEN, in TOGETHER, in SORT
        wrong += [((0,), 0, (), ()), ((0, 2), 2, (), ()), ((0,), None, (0,), ()), ((1,), None, (0, 1), ()),
                  ((0,), None, (), ((0, "up"),)), ((1, 2), None, (), ((0, "up"), (2, "down")))]
        for part in wrong:
            for call, ahead in ((need_part, ()), (lookups_for, ()), (is_hard, ()), (does_do, (((0, "up"),),)),
                                (is_done, ((), ((0, "up"),))), (undone_table, (((0, "up"),),))):
                told = error_of(call, 3, *ahead, part)
                self.assertIsNotNone(told, (call, part))
                self.assertEqual(told[0], "BadPart", part)
                self.assertIs(told[1]["given"], part)

    def test_errors_in_turn(self):
        right = {"columns": 2, "table": ((0, 0),), "index": ((0, "up"),), "part": ((0,), None, (), ())}
        names = {"columns": "BadNumber", "table": "BadTable", "index": "BadIndex", "part": "BadPart"}
        for call, given in ((does_do, ("columns", "index", "part")), (undone_table, ("columns", "index", "part")),
                            (is_done, ("columns", "table", "index", "part"))):
            for at, name in enumerate(given):
                for thing in (None, "x", -1, True, {}, Oddity(), Thorny(), [()], (None,)):
                    told = error_of(call, *[right[other] for other in given[:at]], *[thing] * (len(given) - at))
                    self.assertEqual(told[0], names[name])
                    self.assertIs(told[1]["given"], thing)


class Lookups(unittest.TestCase):
    def test_beside_the_words(self):
        for columns in (1, 2, 3):
            for part in all_parts(columns):
                told = lookups_by_words(columns, part)
                self.assertEqual(lookups_for(columns, part), told, part)
                self.assertIs(is_hard(columns, part), not is_free(part) and told == ())
        for part in all_parts(4)[::37]:
            self.assertEqual(lookups_for(4, part), lookups_by_words(4, part), part)

    def test_by_hand(self):
        up = (((1, "up"),), ((2, "up"),))
        for part, told in (
            (((0,), None, (), ()), (((0,), ()),)),
            (((), 1, (), ()), (((), ((1, "up"),)),)),
            (((0,), 1, (), ()), (((0,), ((1, "up"),)),)),
            (((0,), None, (), ((1, "down"),)), (((0,), ((1, "down"),)),)),
            (((0,), 1, (), ((1, "down"), (2, "up"))), (((0,), ((1, "down"), (2, "up"))),)),
            (((0,), 2, (), ((1, "down"), (2, "up"))), ()),
            (((0,), None, (1,), ()), (((0,), up[0]),)),
            (((0,), 1, (1,), ()), (((0,), up[0]),)),
            (((0,), 2, (1,), ()), ()),
            (((), None, (1, 2), ()), (((), ((1, "up"), (2, "down"))), ((), ((1, "up"), (2, "up"))),
                                      ((), ((2, "up"), (1, "down"))), ((), ((2, "up"), (1, "up"))))),
            (((), 2, (1, 2), ()), (((), ((2, "up"), (1, "down"))), ((), ((2, "up"), (1, "up"))))),
            (((), None, (1, 2), ((2, "down"),)), (((), ((2, "down"), (1, "down"))), ((), ((2, "down"), (1, "up"))))),
            (((), None, (1,), ((1, "down"), (2, "up"))), (((), ((1, "down"), (2, "up"))),)),
            (((), None, (2,), ((1, "down"), (2, "up"))), ()),
            (((), None, (0, 2), ((2, "down"), (1, "up"))), ()),
            (((), None, (1, 2), ((2, "down"), (1, "up"), (0, "up"))), (((), ((2, "down"), (1, "up"), (0, "up"))),)),
            (FREE, ()),
        ):
            self.assertEqual(lookups_for(3, part), told, part)
            self.assertIs(is_hard(3, part), told == () and part != FREE)
        self.assertEqual(len(lookups_for(4, ((3,), None, (0, 1, 2), ()))), 24)
        self.assertEqual(len(lookups_for(4, ((3,), 1, (0, 1, 2), ()))), 8)
        self.assertEqual(len(lookups_for(8, ((), None, (0, 1, 2), ((1, "down"),)))), 8)


class Doing(unittest.TestCase):
    def test_an_index_does_it_if_it_serves_one_of_the_lookups(self):
        for columns in (1, 2, 3):
            for part in all_parts(columns):
                told = lookups_for(columns, part)
                served = set().union(*[SERVED[columns][lookup] for lookup in told])
                for index in all_indexes(columns)[::1 if columns < 3 else 5]:
                    way = does_do(columns, index, part)
                    self.assertEqual(way is not None, is_free(part) or index in served, (index, part))

    def test_beside_the_fact(self):
        for columns in (1, 2, 3):
            for part in all_parts(columns)[::1 if columns < 3 else 7]:
                for index in all_indexes(columns):
                    ways = does_by_fact(index, part)
                    self.assertEqual(does_do(columns, index, part), ways[0] if ways else None, (index, part))
        source = Random(3)
        for _ in range(4000):
            part = some_part(source, 8)
            turn = [*part[0], *[step[0] for step in part[3]]]
            turn += [column for column in source.sample(range(8), 8) if column not in turn]
            steps = dict(part[3])
            turned = source.random() < 0.3
            index = tuple((column, steps.get(column, "up") if not turned else "down" if steps.get(column) == "up" else "up")
                          for column in turn)[:source.randint(1, 8)]
            ways = does_by_fact(index, part)
            self.assertEqual(does_do(8, index, part), ways[0] if ways else None, (index, part))
            self.told(8, index, part)

    def told(self, columns, index, part):
        """The TABLE that is told shows it, by the words of point 28."""
        table = undone_table(columns, index, part)
        if does_do(columns, index, part) is not None:
            self.assertIsNone(table)
            return
        self.assertTrue(type(table) is tuple and len(table) <= 3 and list(table) == sorted(table))
        self.assertTrue(all(type(value) is int and -2 <= value <= 2 for row in table for value in row))
        self.assertTrue(all(type(row) is tuple and len(row) == columns for row in table))
        self.assertEqual(done_ways(table, index, part), [], (index, part, table))
        self.assertIs(is_done(columns, table, index, part), False)

    def test_undone_tables(self):
        for columns in (1, 2, 3):
            for at, part in enumerate(all_parts(columns)):
                for index in all_indexes(columns) if columns < 3 else all_indexes(columns)[at % 31::31]:
                    self.told(columns, index, part)

    def test_done_by_all_small_tables(self):
        for columns, tables, steps in ((1, all_tables(1, range(-1, 2), 3), 1), (2, all_tables(2, range(-1, 2), 3)[::5], 1),
                                       (3, all_tables(3, range(2), 3)[::9], 13)):
            for index in all_indexes(columns)[::1 if columns < 3 else 9]:
                listed = [(table, all_listings(table, index)) for table in tables]
                for part in all_parts(columns)[::steps]:
                    way = does_do(columns, index, part)
                    if way is not None:
                        for table, listings in listed:
                            self.assertIn(way, done_ways(table, index, part, listings))
                            self.assertIs(is_done(columns, table, index, part), True)
                    if way == "backward":
                        self.assertTrue(any("forward" not in done_ways(table, index, part, listings)
                                            for table, listings in listed))

    def test_by_hand(self):
        index = ((0, "up"), (1, "up"), (2, "down"))
        for part, way in ((((0,), 1, (1, 2), ((1, "up"),)), "forward"), (((0,), 1, (), ((1, "down"), (2, "up"))), "backward"),
                          (((0,), 1, (2,), ()), None), (((), None, (0, 1), ()), "forward"), (((0, 1), 2, (), ()), "forward"),
                          (((), None, (1,), ()), None), (((), 0, (0,), ((0, "down"),)), "backward"), (FREE, "forward"),
                          (((), None, (0, 1, 2), ((0, "up"), (1, "up"), (2, "up"))), None), (((2,), None, (), ()), None)):
            self.assertEqual(does_do(3, index, part), way, part)
        for call in (does_do, undone_table):
            self.assertEqual(call(1, ((0, "down"),), FREE), "forward" if call is does_do else None)

    def test_the_lookups_are_enough(self):
        source = Random(5)
        for _ in range(300):
            part = some_part(source, 5)
            for index in all_indexes(5)[source.randrange(200)::1700]:
                served = any(serves_by_fact(index, lookup) for lookup in lookups_for(5, part))
                self.assertEqual(does_do(5, index, part) is not None, served or is_free(part))


class Done(unittest.TestCase):
    def tried(self, columns, tables, indexes, parts):
        for index in indexes:
            listed = [(table, all_listings(table, index)) for table in tables]
            for part in parts:
                for table, listings in listed:
                    self.assertIs(is_done(columns, table, index, part),
                                  bool(done_ways(table, index, part, listings)), (table, index, part))

    def test_one_column(self):
        self.tried(1, all_tables(1, range(-1, 2), 4), all_indexes(1), all_parts(1))

    def test_two_columns(self):
        self.tried(2, all_tables(2, range(-1, 2), 3)[::3], all_indexes(2)[::5], all_parts(2)[::2])
        self.tried(2, all_tables(2, range(2), 4)[::2], all_indexes(2)[1::4], all_parts(2)[1::4])

    def test_three_columns(self):
        self.tried(3, all_tables(3, range(2), 3)[::4], all_indexes(3)[::19], all_parts(3)[::53])
        self.tried(3, all_tables(3, range(-1, 2), 3)[::97], all_indexes(3)[5::23], all_parts(3)[7::61])

    def test_five_rows(self):
        self.tried(2, all_tables(2, range(3), 5)[::60], all_indexes(2)[::5], all_parts(2)[::5])

    def test_by_hand(self):
        index = ((0, "up"),)
        # (0, 1) and (0, 0) may stand in any turn, (1, ..) behind both
        table = ((0, 0), (0, 1), (1, 1))
        self.assertIs(is_done(2, table, index, FREE), True)
        self.assertIs(is_done(2, table, index, ((0,), None, (), ())), True)
        self.assertIs(is_done(2, table, index, ((1,), None, (), ())), False)
        self.assertIs(is_done(2, table, index, ((), 1, (), ())), False)
        self.assertIs(is_done(2, table[:2], index, ((), 1, (), ())), True)
        self.assertIs(is_done(2, table, index, ((), None, (), ((0, "down"),))), True)
        self.assertIs(is_done(2, table, index, ((0,), None, (), ((1, "down"),))), False)
        # rows that only bounds part: all three alike at none, the one between stands between
        table = ((0, 0), (1, 2), (2, 1))
        self.assertIs(is_done(2, table, index, ((), 1, (), ())), False)
        self.assertIs(is_done(2, ((0, 0), (1, 1), (2, 2)), index, ((), 1, (), ())), True)
        self.assertIs(is_done(2, (), index, ((1,), 0, (), ())), True)
        # forward for some values and backward for others is neither way
        table = ((0, 0, 0), (0, 1, 1), (1, 0, 1), (1, 1, 0))
        by = ((0, "up"), (1, "up"))
        self.assertIs(is_done(3, table, by, ((0,), None, (), ((2, "up"),))), False)
        self.assertIs(is_done(3, table[:2], by, ((0,), None, (), ((2, "up"),))), True)
        self.assertIs(is_done(3, table[2:], by, ((0,), None, (), ((2, "up"),))), True)
        # TOGETHER parts what bounds leave, of a column that is not BETWEEN
        table = ((0, 0), (1, 1), (2, 0))
        self.assertIs(is_done(2, table, index, ((), 0, (1,), ())), False)
        self.assertIs(is_done(2, table[:2], index, ((), 0, (1,), ())), True)

    def test_thirty_rows(self):
        table = tuple((at // 10, at // 2, at) for at in range(30))
        up = tuple((column, "up") for column in range(3))
        self.assertIs(is_done(3, table, up, ((0,), 1, (1,), ((1, "up"),))), True)
        self.assertIs(is_done(3, table, up[:2], ((0,), 1, (1,), ((1, "down"),))), True)
        self.assertIs(is_done(3, table, up, ((), 2, (), ((2, "up"),))), True)
        self.assertIs(is_done(3, table, ((2, "down"),), ((), 2, (0, 1), ((2, "up"), (0, "up")))), True)
        self.assertIs(is_done(3, table, ((1, "up"),), ((), 2, (), ())), False)
        self.assertIs(is_done(3, ((1, 2, 3),) * 30, ((1, "up"),), ((), 2, (0,), ((2, "up"),))), True)


if __name__ == "__main__":
    unittest.main()
