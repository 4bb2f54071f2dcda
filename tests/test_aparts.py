"""fewindexes/aparts.py: greatest lots, CRITICAL LOOKUPS, one LOOKUP more (point 11)."""

import unittest

from fewindexes.aparts import critical, greatest_lots, needs_more
from fewindexes.covering import fewest
from cases import Oddity, Thorny, all_lookups, error_of, greatest_by_all, some_demands

SMALL = some_demands(2, (1, 2, 4, 8, 12), 40, 2) + some_demands(3, (1, 3, 5, 8, 12), 60, 3)
BIG = some_demands(8, (12,), 50, 4) + some_demands(5, (7, 12), 50, 5) + some_demands(4, (12,), 50, 6)


class GreatestLots(unittest.TestCase):
    def test_beside_all_lots(self):
        for demand in SMALL + BIG:
            self.assertEqual(greatest_lots(demand), greatest_by_all(demand))
            self.assertTrue(all(len(lot) == fewest(demand) for lot in greatest_lots(demand)))

    def test_by_hand(self):
        self.assertEqual(greatest_lots((1, (((0,), ()),))), ((0,),))
        demand = (3, (((0,), ()), ((0, 1), ()), ((1,), ()), ((1, 2), ())))
        self.assertEqual(greatest_lots(demand), ((0, 2), (0, 3), (1, 3)))
        # the first one and the last one fit, one being the other turned, and so do the two between
        ways = (3, tuple(sorted(((), ((0, first), (1, second))) for first in ("up", "down")
                                for second in ("up", "down"))))
        self.assertEqual(greatest_lots(ways), ((0, 1), (0, 2), (1, 3), (2, 3)))

    def test_many(self):
        # four columns, by each of which three LOOKUPS begin
        lookups = tuple(sorted(((column,), ((4 + other, "up"),) if other < 2 else ()) for column in range(4)
                               for other in (0, 2, 1)))
        demand = (8, lookups)
        self.assertEqual(greatest_lots(demand), greatest_by_all(demand))


class Critical(unittest.TestCase):
    def test_beside_fewest_without_it(self):
        for demand in SMALL + BIG:
            columns, lookups = demand
            wanted = []
            for number in range(len(lookups)):
                others = lookups[:number] + lookups[number + 1:]
                if (fewest((columns, others)) if others else 0) == fewest(demand) - 1:
                    wanted.append(number)
            self.assertEqual(critical(demand), tuple(wanted))
            lots = greatest_by_all(demand)
            self.assertEqual(critical(demand), tuple(sorted(set.intersection(*map(set, lots)))))

    def test_by_hand(self):
        for lookup in all_lookups(2):
            self.assertEqual(critical((2, (lookup,))), (0,))
        self.assertEqual(critical((2, (((0,), ()), ((1,), ())))), (0, 1))
        self.assertEqual(critical((2, (((0,), ()), ((0, 1), ())))), ())
        self.assertEqual(critical((3, (((0,), ()), ((0, 1), ()), ((2,), ())))), (2,))


class NeedsMore(unittest.TestCase):
    def test_beside_fewest_with_it(self):
        for demand in SMALL[::2] + BIG[::10]:
            columns, lookups = demand
            more = all_lookups(3)[::4] if columns >= 3 else all_lookups(2)
            for lookup in (*more, *lookups):
                if lookup in lookups:
                    self.assertIs(needs_more(demand, lookup), False)
                elif len(lookups) < 12:
                    both = (columns, tuple(sorted((*lookups, lookup))))
                    self.assertIs(needs_more(demand, lookup), fewest(both) == fewest(demand) + 1)
                    self.assertIn(fewest(both) - fewest(demand), (0, 1))

    def test_of_twelve(self):
        for demand in [demand for demand in SMALL + BIG if len(demand[1]) == 12][::3]:
            columns, lookups = demand
            for lookup in all_lookups(3)[::5] if columns >= 3 else all_lookups(2):
                both = (columns, tuple(sorted({*lookups, lookup})))
                most = len(greatest_by_all(both)[0])
                self.assertIs(needs_more(demand, lookup), most == fewest(demand) + 1, (demand, lookup))

    def test_by_hand(self):
        demand = (3, (((0,), ()), ((0, 1), ()), ((1,), ())))
        for lookup, more in ((((2,), ()), True), (((1, 2), ()), False), (((0, 1, 2), ()), False),
                             (((0, 2), ()), False), (((0,), ()), False), (((), ((0, "down"),)), False)):
            self.assertIs(needs_more(demand, lookup), more, lookup)

    def test_errors_in_turn(self):
        demand = (2, (((0,), ()),))
        self.assertEqual(error_of(needs_more, None, None), ("BadDemand", {"part": "form"}))
        for lookup in (None, 0, True, "x", [], {}, (), ((), ()), ((2,), ()), ((1, 0), ()), ((0,), ((0, "up"),)),
                       Oddity(), Thorny(), (Thorny(), ())):
            kind, fields = error_of(needs_more, demand, lookup)
            self.assertEqual(kind, "BadLookup")
            self.assertIs(fields["given"], lookup)
        for call in (greatest_lots, critical):
            for wrong, part in ((None, "form"), ((0, ()), "columns"), ((1, []), "lookups"), ((1, (1,)), 0)):
                self.assertEqual(error_of(call, wrong), ("BadDemand", {"part": part}))


if __name__ == "__main__":
    unittest.main()
