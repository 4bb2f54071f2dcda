"""fewindexes/demands.py: DEMANDS, LOOKUPS, SETS, BARE ones (points 2, 3, 8)."""

import unittest
from itertools import combinations

from fewindexes.demands import bare_lookups, need_demand, need_lookup, sets_of
from cases import ODD_THINGS, Oddity, Thorny, all_lookups, error_of, served_table

LOOKUP = ((0, 2), ((1, "down"), (4, "up")))
ALL_COLUMNS = tuple((column, "up") for column in range(8))


def refused(columns, thing):
    return error_of(need_lookup, columns, thing) == ("BadLookup", {"given": thing})


class NeedLookup(unittest.TestCase):
    def test_itself(self):
        for columns in (1, 2, 3):
            for lookup in all_lookups(columns):
                self.assertIs(need_lookup(columns, lookup), lookup)

    def test_bounds(self):
        for lookup in (((), ALL_COLUMNS), (tuple(range(8)), ()), (tuple(range(7)), ((7, "down"),))):
            self.assertIs(need_lookup(8, lookup), lookup)
            self.assertTrue(refused(7, lookup))

    def test_columns(self):
        for columns in (0, 9, -1, True, False, None, "8", (1,), [8], {}, 10 ** 59, Oddity(), Thorny()):
            kind, fields = error_of(need_lookup, columns, LOOKUP)
            self.assertEqual(kind, "BadNumber")
            self.assertIs(fields["given"], columns)
            self.assertEqual(error_of(need_lookup, columns, None)[0], "BadNumber")

    def test_another_kind_in_the_place_of_each_thing(self):
        equal, sort = LOOKUP
        last = sort[1]
        for thing in (None, 5, -1, True, False, "x", "", b"up", [], [0], [(0, "up")], {}, {0: 1}, object,
                      Oddity(), Thorny()):
            for wrong in (thing, (thing, sort), (equal, thing), ((0, thing), sort), (equal, (thing, last)),
                          (equal, ((thing, "up"), last)), (equal, ((1, thing), last))):
                self.assertEqual(error_of(need_lookup, 5, wrong)[0], "BadLookup", type(thing))

    def test_given_is_the_very_thing(self):
        for thing in ([], {}, Oddity(), (Oddity(), Oddity()), (Thorny(), ()), ((), ((), ()))):
            kind, fields = error_of(need_lookup, 5, thing)
            self.assertEqual(kind, "BadLookup")
            self.assertIs(fields["given"], thing)

    def test_what_is_no_lookup(self):
        for wrong in (
            ((), ()), ((0,),), ((0,), (), ()), [(0,), ()], ([0], ()), ((0,), []),
            ((5,), ()), ((-1,), ()), ((1, 0), ()), ((0, 0), ()), ((True,), ()), ((0, True), ()),
            ((), ((5, "up"),)), ((), ((-1, "up"),)), ((), ((0, "up"), (0, "up"))), ((), ((0, "up"), (0, "down"))),
            ((), ((0, "Up"),)), ((), ((0, "forward"),)), ((), ((0, ""),)), ((), ((True, "up"),)), ((), ((0, b"up"),)),
            ((), ([0, "up"],)), ((), ((0, "up", 1),)), ((), ((0,),)), ((), (0, "up")),
            ((0,), ((0, "up"),)), ((0, 2), ((1, "up"), (2, "down"))),
        ):
            self.assertTrue(refused(5, wrong), wrong)


class NeedDemand(unittest.TestCase):
    def part(self, thing):
        told = error_of(need_demand, thing)
        self.assertEqual(told[0], "BadDemand", thing)
        self.assertEqual(list(told[1]), ["part"])
        return told[1]["part"]

    def test_itself_and_bounds(self):
        many = all_lookups(3)
        for demand in ((1, (((0,), ()),)), (3, tuple(many[:12])), (8, (((), ALL_COLUMNS), LOOKUP)), (8, (LOOKUP,))):
            self.assertIs(need_demand(demand), demand)

    def test_form(self):
        for thing in (*ODD_THINGS, Oddity(), Thorny(), (3, (LOOKUP,), 1), (3,), [5, (LOOKUP,)]):
            self.assertEqual(self.part(thing), "form")

    def test_columns(self):
        for columns in (0, 9, -1, True, None, "5", [5], (5,), Oddity(), Thorny()):
            self.assertEqual(self.part((columns, (LOOKUP,))), "columns")
            self.assertEqual(self.part((columns, ())), "columns")

    def test_lookups(self):
        for lookups in ((), [], [LOOKUP], None, 1, True, "x", {}, Oddity(), tuple(all_lookups(3)[:13])):
            self.assertEqual(self.part((5, lookups)), "lookups")
        # thirteen things that are no LOOKUPS are too many all the same
        self.assertEqual(self.part((5, (None,) * 13)), "lookups")

    def test_the_first_that_is_none(self):
        first, second, third = ((0,), ()), ((1,), ()), ((2,), ())
        for thing in (*ODD_THINGS, Oddity(), Thorny()):
            self.assertEqual(self.part((5, (thing, first))), 0)
            self.assertEqual(self.part((5, (first, thing, second))), 1)
            self.assertEqual(self.part((5, (first, second, thing))), 2)
        self.assertEqual(self.part((2, (first, second, third))), 2)
        self.assertEqual(self.part((1, (first, second, third))), 1)

    def test_those_that_do_not_ascend(self):
        first, second, third = ((0,), ()), ((1,), ()), ((2,), ())
        self.assertEqual(self.part((5, (first, first))), 1)
        self.assertEqual(self.part((5, (second, first))), 1)
        self.assertEqual(self.part((5, (first, third, second))), 2)
        self.assertEqual(self.part((5, (second, first, None))), 1)
        self.assertEqual(self.part((5, (second, None, first))), 1)
        self.assertEqual(self.part((5, (((), ((0, "up"),)), ((), ((0, "down"),))))), 1)

    def test_twelve_whose_last_is_none(self):
        lookups = all_lookups(3)[:11]
        self.assertEqual(self.part((3, (*lookups, lookups[0]))), 11)
        self.assertEqual(self.part((3, (*lookups, None))), 11)


class SetsOf(unittest.TestCase):
    def test_by_hand(self):
        for lookup, sets in (
            (((0,), ()), ((0,),)),
            (((), ((1, "up"),)), ((), (1,))),
            (((), ((2, "down"), (0, "up"))), ((), (2,), (0, 2))),
            (LOOKUP, ((0, 2), (0, 1, 2), (0, 1, 2, 4))),
            (((1, 4), ((3, "up"), (0, "up"), (2, "down"))), ((1, 4), (1, 3, 4), (0, 1, 3, 4), (0, 1, 2, 3, 4))),
        ):
            self.assertEqual(sets_of(5, lookup), sets)

    def test_what_holds_of_all(self):
        for lookup in all_lookups(3):
            equal, sort = lookup
            sets = sets_of(3, lookup)
            self.assertIs(type(sets), tuple)
            self.assertEqual(len(sets), len(sort) + 1)
            self.assertEqual(sets[0], equal)
            self.assertEqual(set(sets[-1]), {*equal, *(step[0] for step in sort)})
            for lesser, greater in zip(sets, sets[1:]):
                self.assertEqual(len(set(greater) - set(lesser)), 1)
                self.assertEqual(sorted(greater), list(greater))

    def test_errors_in_turn(self):
        self.assertEqual(error_of(sets_of, 0, None), ("BadNumber", {"given": 0}))
        self.assertEqual(error_of(sets_of, 2, ((2,), ())), ("BadLookup", {"given": ((2,), ())}))


class BareLookups(unittest.TestCase):
    def test_alone(self):
        for lookup in all_lookups(3):
            self.assertEqual(bare_lookups((3, (lookup,))), (0,))

    def test_alike_in_what_they_say(self):
        up, down, equal = ((), ((0, "up"),)), ((), ((0, "down"),)), ((0,), ())
        self.assertEqual(bare_lookups((1, (down, up, equal))), (0,))
        self.assertEqual(bare_lookups((1, (up, equal))), (0,))
        both = tuple(sorted([((), ((0, "up"), (1, "down"))), ((), ((0, "down"), (1, "up")))]))
        self.assertEqual(bare_lookups((2, both)), (0,))
        last = tuple(sorted([((0,), ((1, "up"),)), ((0,), ((1, "down"),)), ((1,), ())]))
        self.assertEqual(bare_lookups((2, last)), (0, 2))

    def test_chain(self):
        lookups = (((), ((0, "down"), (1, "up"), (2, "up"))), ((), ((0, "up"), (1, "down"))), ((0,), ()),
                   ((0, 1), ()), ((0, 1), ((2, "up"),)))
        self.assertEqual(bare_lookups((3, lookups)), (0,))
        self.assertEqual(bare_lookups((3, lookups[1:])), (0, 3))
        self.assertEqual(bare_lookups((3, lookups[2:])), (0, 2))

    def test_alike_ones_within_a_third_one(self):
        # the first two are within each other, and both within the last one, which comes behind them
        lookups = (((), ((0, "down"),)), ((), ((0, "up"),)), ((0,), ((1, "up"),)), ((0, 1), ()))
        self.assertEqual(bare_lookups((2, lookups[:2])), (0,))
        self.assertEqual(bare_lookups((2, lookups[:3])), (2,))
        self.assertEqual(bare_lookups((2, lookups)), (2,))
        self.assertEqual(bare_lookups((2, (((), ((0, "up"),)), ((), ((0, "up"), (1, "up")))))), (1,))

    def test_beside_the_definition(self):
        served = served_table(3)
        lookups = all_lookups(3)
        demands = [lookups[at:at + many] for many in (2, 3, 5, 8, 12) for at in range(0, 120, 3)]
        demands += [lookups[at::step][:12] for step in (7, 10, 13, 29) for at in range(step)]
        demands += [list(pair) for pair in combinations(lookups[::4], 2)]
        for demand in demands:
            bare = []
            for number, one in enumerate(demand):
                others = [place for place, other in enumerate(demand)
                          if place != number and served[other] <= served[one]]
                if all(place > number and served[one] <= served[demand[place]] for place in others):
                    bare.append(number)
            self.assertEqual(bare_lookups((3, tuple(demand))), tuple(bare), demand)

    def test_errors(self):
        self.assertEqual(error_of(bare_lookups, None), ("BadDemand", {"part": "form"}))
        self.assertEqual(error_of(bare_lookups, (0, ())), ("BadDemand", {"part": "columns"}))
        self.assertEqual(error_of(bare_lookups, (1, ())), ("BadDemand", {"part": "lookups"}))
        self.assertEqual(error_of(bare_lookups, (1, (None,))), ("BadDemand", {"part": 0}))


if __name__ == "__main__":
    unittest.main()
