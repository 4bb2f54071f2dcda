"""fewindexes/tables.py: TABLES, LISTINGS, KEEPS, the PAPERS on SERVES (points 4, 5)."""

import unittest
from collections import Counter

from fewindexes.tables import check_serve, does_keep, listing, need_table, rows_for, serve_paper
from cases import (Oddity, Thorny, all_indexes, all_listings, all_lookups, all_tables, changed, error_of, in_order,
                   keeps, serves_by_fact)

WAYS = ("forward", "backward")
INDEX, LOOKUP = ((0, "up"),), ((0,), ())


class NeedTable(unittest.TestCase):
    def test_itself(self):
        thirty = tuple((at // 2, 0) for at in range(30))
        for table in ((), ((0, 0),), ((0, 0), (0, 0)), ((-5, 9), (-5, 10), (0, -1)), thirty, ((3, 3),) * 30,
                      ((-10 ** 59, 0), (10 ** 59, 0))):
            self.assertIs(need_table(2, table), table)
        for table in all_tables(2, range(-1, 2), 3):
            self.assertIs(need_table(2, table), table)

    def test_what_is_none(self):
        for thing in (
            None, 0, True, "x", [], {}, [(0, 0)], Oddity(), Thorny(), ((0,),), ((0, 0, 0),), ((),), (0, 0), ((0, 0), 0),
            ([0, 0],), ((0, 0), [0, 1]), ((True, 0),), ((0, False),), ((0, "0"),), ((0, None),), ((0, Oddity()),),
            (Oddity(),), ((Thorny(), 0),), ((0, 1), (0, 0)), ((1, 0), (0, 1)), ((0, 0), (1, 0), (0, 5)), ("ab",),
            ((0, 0),) * 31, tuple((at, 0) for at in range(31)), ((0, 0), (0, 0, 0)), (None,), ({},), ((0, b"0"),),
        ):
            kind, fields = error_of(need_table, 2, thing)
            self.assertEqual(kind, "BadTable")
            self.assertIs(fields["given"], thing)

    def test_columns_first(self):
        for columns in (0, 9, True, None, [2], Oddity()):
            for table in ((), None):
                kind, fields = error_of(need_table, columns, table)
                self.assertEqual(kind, "BadNumber")
                self.assertIs(fields["given"], columns)


class Listing(unittest.TestCase):
    def test_by_hand(self):
        table = ((0, 1, 5), (0, 2, 4), (1, 1, 3), (1, 1, 3), (1, 2, 2), (2, 0, 1))
        for index, wanted in (
            (((1, "up"),), (5, 0, 2, 3, 1, 4)), (((1, "down"),), (1, 4, 0, 2, 3, 5)),
            (((1, "down"), (0, "up")), (1, 4, 0, 2, 3, 5)), (((1, "up"), (0, "down")), (5, 2, 3, 0, 4, 1)),
            (((0, "down"), (2, "up")), (5, 4, 2, 3, 1, 0)), (((0, "down"),), (5, 2, 3, 4, 0, 1)),
        ):
            self.assertEqual(listing(3, table, index), tuple(table[at] for at in wanted), index)

    def test_what_holds_of_all(self):
        tables = all_tables(2, range(-1, 2), 3) + [((3, 3),) * 30]
        for index in all_indexes(2):
            for table in tables:
                told = listing(2, table, index)
                self.assertEqual(Counter(told), Counter(table))
                self.assertTrue(in_order(index, told))
                for row in table:
                    alike = [other for other in table if all(row[at] == other[at] for at, _ in index)]
                    self.assertEqual([other for other in told if other in alike], alike)

    def test_errors_in_turn(self):
        self.assertEqual(error_of(listing, 0, None, None), ("BadNumber", {"given": 0}))
        self.assertEqual(error_of(listing, 1, None, None), ("BadTable", {"given": None}))
        self.assertEqual(error_of(listing, 1, (), None), ("BadIndex", {"given": None}))
        self.assertEqual(listing(1, (), INDEX), ())


class DoesKeep(unittest.TestCase):
    def tried(self, columns, tables, step=1):
        lookups = all_lookups(columns)
        for index in all_indexes(columns)[::step]:
            for table in tables:
                listings = all_listings(table, index)
                for lookup in lookups:
                    for way in WAYS:
                        self.assertIs(does_keep(columns, table, index, lookup, way), keeps(listings, lookup, way),
                                      (table, index, lookup, way))

    def test_one_column(self):
        self.tried(1, all_tables(1, range(-2, 3), 4))

    def test_two_columns(self):
        self.tried(2, all_tables(2, range(2), 4))
        self.tried(2, all_tables(2, range(-1, 2), 3))

    def test_three_columns(self):
        self.tried(3, all_tables(3, range(2), 3)[::4], 7)
        self.tried(3, all_tables(3, range(-1, 2), 3)[::101], 11)

    def test_five_rows(self):
        self.tried(2, all_tables(2, range(3), 5)[::40], 3)

    def test_kept_by_an_index_that_does_not_serve(self):
        table, index, lookup = ((0, 0), (1, 1), (2, 2)), ((1, "up"),), ((), ((0, "up"),))
        self.assertTrue(does_keep(2, table, index, lookup, "forward"))
        self.assertFalse(does_keep(2, table, index, lookup, "backward"))
        self.assertTrue(does_keep(2, (), index, lookup, "backward"))
        self.assertTrue(does_keep(2, ((5, 7),), index, lookup, "backward"))

    def test_alike_rows(self):
        same = ((4, 4),) * 30
        for lookup in all_lookups(2):
            for way in WAYS:
                self.assertTrue(does_keep(2, same, ((1, "down"),), lookup, way))
        # one row that stands anywhere among the others, as far as the INDEX tells
        others = ((4, 4),) * 29 + ((5, 4),)
        self.assertFalse(does_keep(2, others, ((1, "up"),), ((0,), ()), "forward"))
        self.assertFalse(does_keep(2, others, ((1, "up"),), ((), ((0, "up"),)), "backward"))
        self.assertTrue(does_keep(2, others, ((1, "up"),), ((1,), ()), "backward"))
        # a single row of its value does not part the others where it is first or last for certain
        self.assertTrue(does_keep(2, others, ((0, "up"),), ((0,), ()), "forward"))

    def test_errors_in_turn(self):
        right = [1, ((0,),), INDEX, LOOKUP, "forward"]
        names = ["BadNumber", "BadTable", "BadIndex", "BadLookup", "BadWay"]
        for at, name in enumerate(names):
            wrong = right[:at] + ["wrong"] * (5 - at)
            self.assertEqual(error_of(does_keep, *wrong), (name, {"given": "wrong"}))
        self.assertIsNone(error_of(does_keep, *right))
        for way in (None, 0, True, "", "up", "Forward", ("forward",), ["forward"], {}, b"forward", Oddity(), Thorny()):
            kind, fields = error_of(does_keep, *right[:4], way)
            self.assertEqual(kind, "BadWay")
            self.assertIs(fields["given"], way)


class RowsFor(unittest.TestCase):
    TABLE = ((0, 1, 2), (0, 1, 2), (0, 2, 1), (0, 2, 3), (1, 0, 0), (1, 1, 2))

    def test_by_hand(self):
        table = self.TABLE
        for lookup, values, wanted in (
            (((0,), ()), (0,), (0, 1, 2, 3)), (((0,), ((1, "down"),)), (0,), (2, 3, 0, 1)),
            (((0,), ((2, "down"),)), (0,), (3, 0, 1, 2)), (((), ((2, "up"),)), (), (4, 2, 0, 1, 5, 3)),
            (((), ((0, "down"), (1, "up"))), (), (4, 5, 0, 1, 2, 3)), (((1, 2), ()), (1, 2), (0, 1, 5)),
            (((0, 1, 2), ()), (0, 2, 3), (3,)), (((0,), ()), (7,), ()), (((1,), ((0, "down"),)), (1,), (5, 0, 1)),
        ):
            self.assertEqual(rows_for(3, table, lookup, values), tuple(table[at] for at in wanted), lookup)
        self.assertEqual(rows_for(3, (), ((0,), ()), (0,)), ())

    def test_beside_the_definition(self):
        tables = all_tables(2, range(-1, 2), 3)[::3]
        for equal, sort in all_lookups(2):
            for table in tables:
                seen = 0
                for values in {tuple(row[at] for at in equal) for row in table}:
                    told = rows_for(2, table, (equal, sort), values)
                    wanted = [row for row in table if tuple(row[at] for at in equal) == values]
                    self.assertEqual(Counter(told), Counter(wanted))
                    self.assertTrue(in_order(sort, told))
                    for row in told:
                        alike = [other for other in wanted if all(row[at] == other[at] for at, _ in sort)]
                        self.assertEqual([other for other in told if other in alike], alike)
                    seen += len(told)
                self.assertEqual(seen, len(table))

    def test_values(self):
        lookup = ((0, 2), ((1, "up"),))
        for values in (None, 0, True, "ab", [0, 2], {}, (), (0,), (0, 1, 2), (0, True), (False, 2), (0, None),
                       (0, "2"), (0, (2,)), ((0, 2),), Oddity(), Thorny(), (0, Oddity()), (Thorny(), 2)):
            kind, fields = error_of(rows_for, 3, self.TABLE, lookup, values)
            self.assertEqual(kind, "BadValues")
            self.assertIs(fields["given"], values)
        self.assertEqual(error_of(rows_for, 3, self.TABLE, ((), ((0, "up"),)), (0,)), ("BadValues", {"given": (0,)}))

    def test_errors_in_turn(self):
        right = [1, ((0,),), LOOKUP, (0,)]
        for at, name in enumerate(["BadNumber", "BadTable", "BadLookup", "BadValues"]):
            self.assertEqual(error_of(rows_for, *right[:at], *["wrong"] * (4 - at)), (name, {"given": "wrong"}))
        self.assertEqual(rows_for(*right), ((0,),))


class ServePapers(unittest.TestCase):
    def test_told_papers(self):
        for columns in (1, 2, 3):
            for index in all_indexes(columns):
                for lookup in all_lookups(columns):
                    paper = serve_paper(columns, index, lookup)
                    self.assertIs(type(paper), tuple)
                    self.assertEqual(check_serve(columns, index, lookup, paper), paper[0])
                    self.assertEqual(paper[0] != "not", serves_by_fact(index, lookup), (index, lookup))
                    if paper[0] == "not":
                        self.neither(columns, index, lookup, *paper[1:])
                    else:
                        self.assertIn(paper, (("forward",), ("backward",)))

    def neither(self, columns, index, lookup, table):
        self.assertIs(need_table(columns, table), table)
        listings = all_listings(table, index)
        self.assertFalse(keeps(listings, lookup, "forward"), (index, lookup, table))
        self.assertFalse(keeps(listings, lookup, "backward"), (index, lookup, table))

    def test_told_papers_of_eight_columns(self):
        whole = tuple((column, "down" if column in (2, 5) else "up") for column in range(8))
        for index in (whole, whole[::-1], whole[:5], whole[3:], whole[:1]):
            for lookup in (((), whole), ((), whole[::-1]), ((0, 1), whole[2:6]), ((7,), whole[4:6]), ((3, 4, 5), ()),
                           (tuple(range(8)), ()), (tuple(range(7)), whole[7:]), ((6,), ((7, "up"), (5, "up")))):
                paper = serve_paper(8, index, lookup)
                self.assertEqual(paper[0] != "not", serves_by_fact(index, lookup))
                if paper[0] == "not":
                    self.neither(8, index, lookup, paper[1])

    def due(self, columns, index, lookup, paper):
        """By the definitions: the part that is due of a PAPER, or None of one that holds."""
        forms = {"forward": 1, "backward": 1, "not": 2}
        if type(paper) is not tuple or not paper or type(paper[0]) is not str or forms.get(paper[0]) != len(paper):
            return "form"
        if paper[0] != "not":
            steps = lookup[1] if paper[0] == "forward" else [(at, "up" if way == "down" else "down")
                                                            for at, way in lookup[1]]
            return None if serves_by_fact(index, lookup) and all(step in index for step in steps) else paper[0]
        if error_of(need_table, columns, paper[1]):
            return "not"
        listings = all_listings(paper[1], index)
        return "not" if keeps(listings, lookup, "forward") or keeps(listings, lookup, "backward") else None

    def test_changed_papers(self):
        for index in all_indexes(2):
            for lookup in all_lookups(2):
                for paper in {serve_paper(2, index, lookup), ("forward",), ("backward",)}:
                    for wrong in (paper, *changed(paper)):
                        part = self.due(2, index, lookup, wrong)
                        told = error_of(check_serve, 2, index, lookup, wrong)
                        self.assertEqual(told, None if part is None else ("BadPaper", {"part": part}), wrong)

    def test_papers_of_tables_that_keep_it_one_way(self):
        index, lookup = ((1, "up"),), ((), ((0, "up"),))
        for table in ((), ((0, 0),), ((0, 0), (1, 1)), ((0, 1), (1, 0))):
            self.assertEqual(error_of(check_serve, 2, index, lookup, ("not", table)), ("BadPaper", {"part": "not"}))
        self.assertEqual(check_serve(2, index, lookup, ("not", ((0, 0), (1, 0)))), "not")
        many = tuple((at, 0) for at in range(30))
        self.assertEqual(check_serve(2, index, lookup, ("not", many)), "not")
        for table in ((*many, (30, 0)), many[::-1], list(many), None, Oddity(), Thorny(), ((0,), (1,))):
            self.assertEqual(error_of(check_serve, 2, index, lookup, ("not", table)), ("BadPaper", {"part": "not"}))

    def test_no_table_speaks_against_what_serves(self):
        for index in all_indexes(2):
            for lookup in all_lookups(2):
                if serves_by_fact(index, lookup):
                    for table in all_tables(2, range(2), 3):
                        self.assertEqual(error_of(check_serve, 2, index, lookup, ("not", table)),
                                         ("BadPaper", {"part": "not"}))

    def test_form(self):
        for paper in (None, 0, True, "forward", (), [], ["forward"], {}, ("forward", 1), ("not",), ("not", (), ()),
                      ("within",), ("Forward",), (None,), ([],), (Oddity(),), (Thorny(), 1), Oddity(), Thorny()):
            self.assertEqual(error_of(check_serve, 1, INDEX, LOOKUP, paper), ("BadPaper", {"part": "form"}))
        # both hold where SORT is ()
        self.assertEqual(check_serve(1, INDEX, LOOKUP, ("forward",)), "forward")
        self.assertEqual(check_serve(1, INDEX, LOOKUP, ("backward",)), "backward")

    def test_errors_in_turn(self):
        for call, rest in ((serve_paper, ()), (check_serve, ("wrong",))):
            right = [1, INDEX, LOOKUP]
            for at, name in enumerate(["BadNumber", "BadIndex", "BadLookup"]):
                self.assertEqual(error_of(call, *right[:at], *["wrong"] * (3 - at), *rest), (name, {"given": "wrong"}))


if __name__ == "__main__":
    unittest.main()
