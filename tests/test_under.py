"""fewindexes/under.py: SERVES UNDER TELLS, fit under TELLS, the PAPERS (points 21, 22)."""

import unittest
from itertools import combinations
from random import Random

from fewindexes.indexes import way_of
from fewindexes.tells import closed_sets, does_obey
from fewindexes.under import check_under, do_fit_under, index_under, under_paper, way_under
from cases import (ODD_THINGS, THORNS, Oddity, Thorny, all_indexes, all_listings, all_lookups, all_tables, changed,
                   error_of, keeps, some_demands, some_lookup)
from told_cases import (all_tells, fit_under_by_fact, kinds_of_tells, obeys_by_rows, serves_under, served_under,
                        some_tells)

WAYS = ("forward", "backward")


def kept_ways(table, index, lookup, listings=None):
    """The ways that a TABLE keeps a LOOKUP, by all LISTINGS."""
    listings = listings or all_listings(table, index)
    return [way for way in WAYS if keeps(listings, lookup, way)]


class WayUnder(unittest.TestCase):
    def held(self, columns, tells, tables, indexes, lookups):
        """What is told, held beside the TABLES, all of which obey; what is told of not is held beside its own TABLE."""
        for index in indexes:
            listed = [(table, all_listings(table, index)) for table in tables]
            for lookup in lookups:
                way = way_under(columns, tells, index, lookup)
                paper = under_paper(columns, tells, index, lookup)
                self.assertEqual(check_under(columns, tells, index, lookup, paper), paper[0])
                if way is None:
                    self.parts(columns, tells, index, lookup, paper)
                    continue
                self.assertEqual(paper, (way,))
                kept = set(WAYS)
                for table, listings in listed:
                    kept &= set(kept_ways(table, index, lookup, listings))
                self.assertIn(way, kept, (tells, index, lookup))
                if way == "backward":
                    self.assertNotIn("forward", kept, (tells, index, lookup))

    def parts(self, columns, tells, index, lookup, paper):
        """A TABLE that obeys, three rows of -2 to 2, that keeps the LOOKUP neither way."""
        word, table = paper
        self.assertEqual(word, "not")
        self.assertTrue(len(table) <= 3 and all(-2 <= value <= 2 for row in table for value in row))
        self.assertEqual(list(table), sorted(table))
        self.assertTrue(obeys_by_rows(tells, table), (tells, index, lookup, table))
        self.assertEqual(kept_ways(table, index, lookup), [], (tells, index, lookup, table))

    def test_one_and_two_columns(self):
        for columns, told in ((1, all_tells(1, 2)), (2, kinds_of_tells(2, 2))):
            tables = all_tables(columns, range(-1, 2), 3)
            for tells in told:
                obeying = [table for table in tables if obeys_by_rows(tells, table)]
                self.held(columns, tells, obeying, all_indexes(columns), all_lookups(columns))

    def test_three_columns(self):
        tables = all_tables(3, range(2), 3)
        for at, tells in enumerate(kinds_of_tells(3, 3)[::5]):
            obeying = [table for table in tables if obeys_by_rows(tells, table)]
            self.held(3, tells, obeying[at % 3::3], all_indexes(3)[at % 7::7], all_lookups(3)[at % 5::5])

    def test_beside_the_fact(self):
        for tells in kinds_of_tells(3, 3)[1::4] + some_tells(3, 6, 2):
            for index in all_indexes(3)[::2]:
                for lookup in all_lookups(3)[::3]:
                    ways = serves_under(tells, index, lookup)
                    wanted = "forward" if "forward" in ways else "backward" if ways else None
                    self.assertEqual(way_under(3, tells, index, lookup), wanted, (tells, index, lookup))

    def test_eight_columns(self):
        source = Random(6)
        for tells in some_tells(8, 60, 3):
            for _ in range(40):
                turn = source.sample(range(8), 8)
                index = tuple((column, source.choice(("up", "down"))) for column in turn[:source.randint(1, 8)])
                lookup = some_lookup(source, turn)
                ways = serves_under(tells, index, lookup)
                paper = under_paper(8, tells, index, lookup)
                self.assertEqual(paper[0], "not" if not ways else "forward" if "forward" in ways else "backward")
                if not ways:
                    self.parts(8, tells, index, lookup, paper)

    def test_without_tells(self):
        for index in all_indexes(3):
            for lookup in all_lookups(3):
                self.assertEqual(way_under(3, (), index, lookup), way_of(3, index, lookup))

    def test_by_hand(self):
        key = (((0,), (1, 2)),)
        up = tuple((column, "up") for column in range(3))
        self.assertEqual(way_under(3, key, up, ((0,), ((2, "down"), (1, "up")))), "forward")
        self.assertEqual(way_under(3, key, up[:1], ((0, 2), ())), "forward")
        self.assertEqual(way_under(3, key, up[:1], ((), ((0, "down"), (2, "up")))), "backward")
        self.assertEqual(way_under(3, key, up[:1], ((2,), ((0, "down"),))), None)
        self.assertEqual(way_under(3, key, (up[2], up[0]), ((2,), ((0, "down"), (1, "down")))), "backward")
        self.assertEqual(way_under(3, key, (up[2], up[0]), ((2,), ((1, "down"), (0, "down")))), None)
        same = (((), (0, 1)),)
        self.assertEqual(way_under(2, same, up[:1], ((1,), ((0, "down"),))), "forward")
        self.assertEqual(way_under(3, same, up[2:], ((0,), ((1, "down"), (2, "down")))), "backward")
        self.assertEqual(way_under(3, same, up[2:], ((0,), ((1, "down"),))), "forward")


class CheckUnder(unittest.TestCase):
    TELLS = (((0,), (1,)),)
    UP = ((0, "up"), (2, "up"))

    def part(self, index, lookup, paper, tells=TELLS):
        name, fields = error_of(check_under, 3, tells, index, lookup, paper)
        self.assertEqual(name, "BadPaper")
        return fields["part"]

    def test_both_words_where_the_cut_is_empty(self):
        for lookup in (((0,), ()), ((0, 1), ()), ((0,), ((1, "down"),))):
            for word in WAYS:
                self.assertEqual(check_under(3, self.TELLS, self.UP, lookup, (word,)), word)
        self.assertEqual(under_paper(3, self.TELLS, self.UP, ((0,), ((1, "down"),))), ("forward",))
        self.assertEqual(check_under(3, self.TELLS, self.UP, ((0,), ((2, "up"),)), ("forward",)), "forward")

    def test_words(self):
        lookup = ((0,), ((1, "up"), (2, "down")))
        self.assertEqual(check_under(3, self.TELLS, self.UP, lookup, ("backward",)), "backward")
        self.assertEqual(self.part(self.UP, lookup, ("forward",)), "forward")
        self.assertEqual(self.part(self.UP, ((2,), ()), ("forward",)), "forward")
        self.assertEqual(self.part(self.UP, ((2,), ()), ("backward",)), "backward")
        self.assertEqual(self.part(self.UP, ((0,), ((2, "up"),)), ("backward",)), "backward")

    def test_form(self):
        for paper in (None, 0, True, "forward", (), [], ["forward"], {}, ("forward", 1), ("backward", ()), ("not",),
                      ("not", (), ()), ("Forward",), ("within",), (None,), ([],), (Thorny(),), (Oddity(),), Oddity(),
                      Thorny()):
            self.assertEqual(self.part(self.UP, ((2,), ()), paper), "form")

    def test_tables(self):
        index, lookup = self.UP, ((1,), ())
        right = ((0, 0, 0), (1, 1, 0), (2, 0, 0))
        self.assertEqual(check_under(3, self.TELLS, index, lookup, ("not", right)), "not")
        self.assertEqual(check_under(3, self.TELLS, index, lookup, ("not", right + ((9, 10 ** 59, -7),))), "not")
        for table in (None, 0, True, "x", [], {}, [*right], right[::-1], ((0, 0, 0), (1, 1, 0), (2, 0)), right[:2],
                      right[1:], (), ((0, 0, 0), (1, 1, True), (2, 0, 0)), (right[0], right[1], [2, 0, 0]), right * 11,
                      Oddity(), Thorny(), (Oddity(),), ((Thorny(), 0, 0),)):
            self.assertEqual(self.part(index, lookup, ("not", table)), "not")
        # it parts them, and does not obey
        self.assertEqual(self.part(index, lookup, ("not", ((0, 0, 0), (1, 0, 0), (1, 1, 0), (2, 0, 0)))), "not")
        self.assertEqual(self.part(index, lookup, ("not", ((0, 0, 0), (0, 1, 0), (1, 0, 0), (1, 1, 1)))), "not")
        # it obeys, and keeps it one way, both ways
        wanted = ((), ((1, "down"),))
        self.assertEqual(self.part(index, wanted, ("not", ((0, 0, 0), (1, 1, 0), (2, 2, 0)))), "not")
        self.assertEqual(self.part(index, wanted, ("not", ((0, 5, 0), (1, 1, 0), (2, 0, 0)))), "not")
        self.assertEqual(self.part(index, wanted, ("not", ((0, 5, 0), (0, 5, 0)))), "not")
        self.assertEqual(check_under(3, self.TELLS, index, wanted, ("not", ((0, 0, 0), (1, 1, 0), (2, 0, 0)))), "not")
        # no TABLE parts what is served
        self.assertEqual(self.part(index, ((0, 1), ()), ("not", right)), "not")

    def due(self, columns, tells, index, lookup, paper):
        """By the definitions: the part that is due of a PAPER, or None of one that holds."""
        forms = {"forward": 1, "backward": 1, "not": 2}
        if type(paper) is not tuple or not paper or type(paper[0]) is not str or forms.get(paper[0]) != len(paper):
            return "form"
        if paper[0] != "not":
            return None if paper[0] in serves_under(tells, index, lookup) else paper[0]
        table = paper[1]
        if type(table) is not tuple or not all(type(row) is tuple and len(row) == columns for row in table):
            return "not"
        if not all(type(value) is int for row in table for value in row) or list(table) != sorted(table):
            return "not"
        if len(table) > 30 or not obeys_by_rows(tells, table):
            return "not"
        return "not" if kept_ways(table, index, lookup) else None

    def test_changed_papers(self):
        for at, tells in enumerate(kinds_of_tells(2, 2) + kinds_of_tells(3, 2)[::6]):
            columns = 2 if at < len(kinds_of_tells(2, 2)) else 3
            for index in all_indexes(columns)[at % 5::11]:
                for lookup in all_lookups(columns)[at % 4::9]:
                    paper = under_paper(columns, tells, index, lookup)
                    other = ("not", ((0,) * columns, (1,) * columns, (2, *[0] * (columns - 1))))
                    for wrong in (paper, other, *changed(paper, THORNS), ("forward",), ("backward",)):
                        part = self.due(columns, tells, index, lookup, wrong)
                        told = error_of(check_under, columns, tells, index, lookup, wrong)
                        self.assertEqual(told, None if part is None else ("BadPaper", {"part": part}), wrong)

    def test_errors_in_turn(self):
        names = ("BadNumber", "BadTells", "BadIndex", "BadLookup")
        right = [3, self.TELLS, self.UP, ((0,), ())]
        for call, rest in ((way_under, ()), (under_paper, ()), (check_under, (None,))):
            for at, name in enumerate(names):
                for thing in (None, "x", -1, True, {}, Oddity(), Thorny(), [()], (None,)):
                    told = error_of(call, *right[:at], *[thing] * (4 - at), *rest)
                    self.assertEqual(told[0], name)
                    if name == "BadTells":
                        self.assertEqual(told[1], {"number": 0 if type(thing) is tuple else None})
                    else:
                        self.assertIs(told[1]["given"], thing)


class Fitting(unittest.TestCase):
    def held(self, tells, demand, numbers, served):
        both = set.intersection(*[served[demand[1][number]] for number in numbers])
        self.assertIs(do_fit_under(demand, tells, numbers), bool(both), (tells, demand, numbers))
        index = index_under(demand, tells, numbers)
        if both:
            self.assertIn(index, both, (tells, demand, numbers))
        else:
            self.assertIsNone(index)

    def test_all_pairs_beside_all_indexes(self):
        for columns, told, step in ((1, all_tells(1, 2), 1), (2, kinds_of_tells(2, 2), 1),
                                    (3, kinds_of_tells(3, 3)[::6], 7)):
            for at, tells in enumerate(told):
                served = served_under(columns, tells, all_indexes(columns))
                for pair in list(combinations(all_lookups(columns), 2))[at % step::step]:
                    self.held(tells, (columns, pair), (0, 1), served)
                for lookup in all_lookups(columns):
                    self.held(tells, (columns, (lookup,)), (0,), served)

    def test_more_than_two_beside_all_indexes(self):
        lookups = all_lookups(3)
        for at, tells in enumerate(kinds_of_tells(3, 3)[3::6]):
            served = served_under(3, tells, all_indexes(3))
            for step in (7, 11, 13):
                demand = (3, tuple(lookups[at % step::step][:12]))
                for many in (3, 4, 6):
                    for numbers in list(combinations(range(len(demand[1])), many))[::13]:
                        self.held(tells, demand, numbers, served)
            for demand in some_demands(3, (3, 4, 6), 12, at):
                for many in (2, 3, 4):
                    for numbers in combinations(range(len(demand[1])), many):
                        self.held(tells, demand, numbers, served)

    def test_big_ones(self):
        for at, tells in enumerate(some_tells(8, 40, 9) + some_tells(5, 40, 10)):
            columns = 8 if at < 40 else 5
            for demand in some_demands(columns, (4, 12), 3, at):
                lookups = demand[1]
                fit = {(one, other) for one, other in combinations(range(len(lookups)), 2)
                       if fit_under_by_fact(tells, lookups[one], lookups[other])}
                for many in (1, 2, 3, 4):
                    for numbers in list(combinations(range(len(lookups)), many))[::3]:
                        wanted = all(pair in fit for pair in combinations(numbers, 2))
                        self.assertIs(do_fit_under(demand, tells, numbers), wanted)
                        index = index_under(demand, tells, numbers)
                        self.assertEqual(index is not None, wanted)
                        if wanted:
                            self.assertTrue(all(serves_under(tells, index, lookups[number]) for number in numbers))

    def test_by_hand(self):
        tells = (((), (3,)), ((0,), (1,)), ((1,), (0,)))
        demand = (4, (((), ((0, "up"), (2, "up"))), ((), ((1, "up"), (2, "down"))), ((), ((2, "up"), (0, "up"))),
                      ((0,), ((2, "up"),)), ((1,), ((3, "down"), (2, "up"))), ((3,), ())))
        # 0 and 1 tell one another, but what is sorted by the one is not sorted by the other
        self.assertFalse(do_fit_under(demand, tells, (0, 1)))
        self.assertTrue(do_fit_under(demand, tells, (0, 3, 4, 5)))
        self.assertTrue(do_fit_under(demand, tells, (1, 3, 4)))
        self.assertFalse(do_fit_under(demand, tells, (0, 2)))
        self.assertFalse(do_fit_under(demand, (), (3, 4)))
        self.assertTrue(do_fit_under(demand, tells, (0, 5)))
        for numbers in ((0, 3, 4, 5), (1, 3, 4), (2, 5), (5,)):
            index = index_under(demand, tells, numbers)
            for number in numbers:
                self.assertIsNotNone(way_under(4, tells, index, demand[1][number]))
        self.assertIsNone(index_under(demand, tells, (0, 1)))
        # a CLOSED SET that lies between two of another one, next to one another
        demand = (3, (((), ((0, "up"),)), ((1,), ())))
        self.assertFalse(do_fit_under(demand, (((0,), (1, 2)),), (0, 1)))
        self.assertTrue(do_fit_under(demand, (((0,), (1, 2)), ((1,), (0,))), (0, 1)))

    def test_all_closed_sets_the_closure_of_none(self):
        tells = (((), (0, 1)),)
        demand = (2, (((), ((0, "down"),)), ((), ((0, "up"), (1, "down"))), ((0,), ()), ((0, 1), ()), ((1,), ())))
        for many in range(1, 6):
            for numbers in combinations(range(5), many):
                self.assertTrue(do_fit_under(demand, tells, numbers))
                index = index_under(demand, tells, numbers)
                self.assertIn(index, all_indexes(2))
                for number in numbers:
                    self.assertEqual(closed_sets(2, tells, demand[1][number]), ((0, 1),))
                    self.assertEqual(way_under(2, tells, index, demand[1][number]), "forward")

    def test_errors_in_turn(self):
        demand, tells = (2, (((0,), ()), ((0, 1), ()), ((1,), ()))), (((0,), (1,)),)
        for call in (do_fit_under, index_under):
            for numbers in (*[thing for thing in ODD_THINGS if thing != (0,)], (1, 0), (0, 0), (0, 3), (-1, 0),
                            (False, 1), (0, True), (0, None), ((0,), 1), Oddity(), Thorny(), (Thorny(), 1)):
                kind, fields = error_of(call, demand, tells, numbers)
                self.assertEqual(kind, "BadNumbers")
                self.assertIs(fields["given"], numbers)
            self.assertEqual(error_of(call, None, None, None), ("BadDemand", {"part": "form"}))
            self.assertEqual(error_of(call, demand, None, None), ("BadTells", {"number": None}))
            self.assertEqual(error_of(call, demand, (((0,), (1,)), ((0,), (2,))), None), ("BadTells", {"number": 1}))

    def test_told_tables_obey_by_the_package_too(self):
        for tells in kinds_of_tells(3, 2)[::4]:
            for index in all_indexes(3)[::9]:
                for lookup in all_lookups(3)[::9]:
                    paper = under_paper(3, tells, index, lookup)
                    self.assertTrue(paper[0] != "not" or does_obey(3, tells, paper[1]))


if __name__ == "__main__":
    unittest.main()
