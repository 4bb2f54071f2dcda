"""fewindexes/terms.py: TERMS, their PARTS, CHOICES and bounds (points 30, 31)."""

import unittest
from random import Random

from fewindexes.needs import least_for
from fewindexes.parts import does_do, is_hard, lookups_for, need_part
from fewindexes.terms import choices_of, doers, kids_of, need_term, parts_of
from cases import THORNS, Oddity, Thorny, all_indexes, changed, error_of
from query_cases import deepest, is_free, lookups_by_words, parts_by_words, some_terms, wrong_path

ROWS = ("rows",)
FREE = ((), None, (), ())
SOME = {columns: some_terms(columns, 150, columns) for columns in (1, 2, 3, 8)}


def tall(many, inner=ROWS):
    """So many words "turned" around a TERM."""
    for _ in range(many):
        inner = ("turned", inner)
    return inner


def wide(many):
    """A TERM of so many PARTS: as many words "rows", and one "either" less."""
    return ROWS if many == 1 else ("either", wide(many // 2), wide(many - many // 2))


class PartsOf(unittest.TestCase):
    def test_beside_the_words(self):
        for columns, terms in SOME.items():
            for term in terms:
                told = parts_of(columns, term)
                self.assertEqual(told, parts_by_words(term), term)
                for part in told:
                    self.assertIs(need_part(columns, part), part)

    def each(self, term, *told):
        self.assertEqual(parts_of(5, term), told)

    def test_rows_and_either(self):
        self.each(ROWS, FREE)
        one, two = ("equal", ROWS, 1), ("between", ROWS, 2)
        self.each(("either", one, two), ((1,), None, (), ()), ((), 2, (), ()))
        self.each(("either", two, one), ((), 2, (), ()), ((1,), None, (), ()))
        self.each(("either", ("either", one, ROWS), ("either", two, one)), ((1,), None, (), ()), FREE, ((), 2, (), ()),
                  ((1,), None, (), ()))
        # each word is done to each PART
        both = ("either", one, two)
        self.each(("equal", both, 2), ((1, 2), None, (), ()), ((2,), None, (), ()))
        self.each(("between", both, 1), ((1,), None, (), ()), ((), 1, (), ()))
        self.each(("grouped", both, (1, 3)), ((1,), None, (3,), ()), ((), 2, (1, 3), ()))
        self.each(("sorted", both, ((1, "up"), (3, "down"))), ((1,), None, (), ((3, "down"),)),
                  ((), 2, (), ((1, "up"), (3, "down"))))
        self.each(("turned", ("sorted", both, ((1, "up"), (3, "down")))), ((1,), None, (), ((3, "up"),)),
                  ((), 2, (), ((1, "down"), (3, "up"))))

    def test_equal(self):
        inner = ("sorted", ("grouped", ("between", ROWS, 2), (1, 2, 4)), ((2, "up"), (0, "down"), (4, "up")))
        self.each(inner, ((), 2, (1, 2, 4), ((2, "up"), (0, "down"), (4, "up"))))
        self.each(("equal", inner, 2), ((2,), None, (1, 4), ((0, "down"), (4, "up"))))
        self.each(("equal", inner, 3), ((3,), 2, (1, 2, 4), ((2, "up"), (0, "down"), (4, "up"))))
        self.each(("equal", inner, 0), ((0,), 2, (1, 2, 4), ((2, "up"), (4, "up"))))
        self.each(("equal", ("equal", ("equal", inner, 4), 1), 4), ((1, 4), 2, (2,), ((2, "up"), (0, "down"))))

    def test_between(self):
        self.each(("between", ROWS, 0), ((), 0, (), ()))
        self.each(("between", ("between", ROWS, 0), 3), ((), 3, (), ()))
        self.each(("between", ("equal", ROWS, 3), 3), ((3,), None, (), ()))
        self.each(("between", ("equal", ("between", ROWS, 2), 3), 3), ((3,), 2, (), ()))
        self.each(("between", ("equal", ("between", ROWS, 2), 3), 0), ((3,), 0, (), ()))

    def test_grouped(self):
        self.each(("grouped", ROWS, ()), FREE)
        self.each(("grouped", ("grouped", ROWS, (0, 1)), (2,)), ((), None, (2,), ()))
        self.each(("grouped", ("grouped", ROWS, (0, 1)), ()), FREE)
        self.each(("grouped", ("equal", ROWS, 1), (0, 1, 4)), ((1,), None, (0, 4), ()))
        self.each(("grouped", ("sorted", ("between", ROWS, 1), ((0, "up"),)), (0, 1)), ((), 1, (0, 1), ((0, "up"),)))

    def test_sorted_and_turned(self):
        steps = ((4, "up"), (0, "down"))
        self.each(("sorted", ROWS, ()), FREE)
        self.each(("sorted", ROWS, steps), ((), None, (), steps))
        self.each(("sorted", ("sorted", ROWS, steps), ((1, "up"),)), ((), None, (), ((1, "up"),)))
        self.each(("sorted", ("sorted", ROWS, steps), ()), FREE)
        self.each(("sorted", ("equal", ("between", ROWS, 0), 4), steps), ((4,), 0, (), ((0, "down"),)))
        self.each(("turned", ("sorted", ROWS, steps)), ((), None, (), ((4, "down"), (0, "up"))))
        self.each(("turned", ("turned", ("sorted", ROWS, steps))), ((), None, (), steps))
        self.each(("turned", ROWS), FREE)
        self.each(("sorted", ("turned", ROWS), steps), ((), None, (), steps))

    def test_kids(self):
        one, two = ("equal", ROWS, 1), ("turned", ROWS)
        self.assertEqual(kids_of(2, ROWS), ())
        for term in (one, two, ("between", one, 1), ("grouped", two, (0,)), ("sorted", one, ((0, "up"),))):
            self.assertEqual(kids_of(2, term), (term[1],))
        self.assertEqual(kids_of(2, ("either", one, two)), (one, two))
        self.assertEqual(kids_of(2, ("either", two, two)), (two, two))


class NeedTerm(unittest.TestCase):
    def path(self, thing, columns=3):
        kind, fields = error_of(need_term, columns, thing)
        self.assertEqual(kind, "BadTerm")
        return fields["path"]

    def test_itself(self):
        for columns, terms in SOME.items():
            for term in terms:
                self.assertIs(need_term(columns, term), term)
                self.assertIsNone(wrong_path(columns, term))

    def test_what_is_none_by_itself(self):
        for thing in (None, 0, True, "rows", (), [], {}, ["rows"], ("row",), ("Rows",), (b"rows",), (None,), ((),), ([],),
                      ("rows", ROWS), ("equal",), ("equal", ROWS), ("equal", ROWS, 0, 0), ("between", ROWS), ("grouped",),
                      ("grouped", ROWS), ("sorted", ROWS), ("turned",), ("turned", ROWS, ROWS), ("either", ROWS),
                      ("either", ROWS, ROWS, ROWS), ("equal", 0, ROWS), Oddity(), Thorny(), (Oddity(),), (Thorny(), 0)):
            self.assertEqual(self.path(thing), (), thing)
            self.assertEqual(self.path(("turned", thing)), (1,), thing)
            self.assertEqual(self.path(("either", ROWS, thing)), (2,), thing)
            self.assertEqual(self.path(("either", ROWS, ("equal", ("either", thing, None), 0))), (2, 1, 1), thing)
        for word, wrong in (("equal", (3, -1, True, None, "0", (), (0,), [], 10 ** 59, Oddity(), Thorny())),
                            ("between", (3, -1, False, None, "0", (), (0,), [], {}, Oddity(), Thorny())),
                            ("grouped", (None, 0, True, "0", [0], {}, (3,), (0, 0), (1, 0), (True,), ("0",), ((0,),),
                                         Oddity(), Thorny(), (Thorny(),))),
                            ("sorted", (None, 0, "up", [], {}, (0, "up"), ((0,),), ((3, "up"),), ((0, "Up"),),
                                        ((0, "up"), (0, "down")), ([0, "up"],), ((True, "up"),), ((0, "up", 1),),
                                        Oddity(), Thorny(), (Oddity(),), ((0, Thorny()),)))):
            for thing in wrong:
                self.assertEqual(self.path((word, ROWS, thing)), (), (word, thing))
                self.assertEqual(self.path((word, None, thing)), (), (word, thing))
                self.assertEqual(self.path(("turned", ("either", (word, None, thing), None))), (1, 1), (word, thing))
        self.assertIsNone(error_of(need_term, 4, ("grouped", ROWS, (0, 1, 3))))
        self.assertEqual(self.path(("grouped", ROWS, (0, 1, 2, 3)), 4), ())

    def test_the_first_of_two(self):
        bad = ("equal", None, 9)
        self.assertEqual(self.path(("either", bad, bad)), (1,))
        self.assertEqual(self.path(("either", ("turned", None), None)), (1, 1))
        self.assertEqual(self.path(("either", ("either", ROWS, ("turned", None)), None)), (1, 2, 1))
        self.assertEqual(self.path(("either", ("turned", ROWS), ("either", None, bad))), (2, 1))
        self.assertEqual(self.path(("either", tall(3, ("equal", ROWS, 3)), None)), (1, 1, 1, 1))

    def test_words_within_one_another(self):
        self.assertIsNone(error_of(need_term, 3, tall(11)))
        self.assertEqual(deepest(tall(11)), 12)
        self.assertEqual(self.path(tall(12)), ())
        # the twelfth one by itself, and whatever stands within twelve others
        self.assertEqual(self.path(tall(11, None)), (1,) * 11)
        self.assertEqual(self.path(tall(11, ("equal", ROWS, 9))), (1,) * 11)
        for thing in (None, ROWS, 0, "x", (), ("equal", ROWS, 9), Oddity(), Thorny()):
            self.assertEqual(self.path(tall(12, thing)), ())
            self.assertEqual(self.path(("either", ROWS, tall(11, thing))), ())
        # what is wrong ahead of it on the walk comes first
        self.assertEqual(self.path(("either", ("turned", None), tall(11))), (1, 1))
        self.assertEqual(self.path(("either", tall(11), None)), ())
        self.assertEqual(self.path(tall(5, ("sorted", tall(9), None))), (1,) * 5)

    def test_twenty_words(self):
        # 19 words in two TERMS of an "either": the 20th may stand, the 21st may not
        def two(left, right):
            return ("either", tall(left - 1), tall(right - 1))
        self.assertIsNone(error_of(need_term, 3, two(9, 10)))
        self.assertEqual(self.path(two(10, 10)), ())
        self.assertEqual(self.path(two(11, 9)), ())
        self.assertIsNone(error_of(need_term, 3, two(11, 8)))
        for thing in (None, 0, "x", ("equal", ROWS, 9), Oddity(), Thorny()):
            # the twentieth one is told by its path, the one behind it by none
            self.assertEqual(self.path(("either", tall(9), tall(8, thing))), (2,) + (1,) * 8)
            self.assertEqual(self.path(("either", tall(9), tall(9, thing))), ())
            self.assertEqual(self.path(("either", tall(9), ("either", tall(6), thing))), (2, 2))
            self.assertEqual(self.path(("either", tall(9), ("either", tall(7), thing))), ())
        # what is wrong behind the 21st word is not come to, what is wrong ahead of it comes first
        self.assertEqual(self.path(("either", ("either", None, tall(9)), tall(9))), (1, 1))
        self.assertEqual(self.path(("either", ("either", tall(9), tall(9)), None)), ())

    def test_eight_parts(self):
        for many in range(1, 9):
            self.assertEqual(parts_of(1, wide(many)), (FREE,) * many)
        for many in (9, 10):
            self.assertEqual(self.path(wide(many)), ())
        self.assertEqual(self.path(("turned", wide(9))), ())
        # behind all of the walk
        self.assertEqual(self.path(("either", wide(9), None)), (2,))
        self.assertEqual(self.path(("either", wide(8), ("equal", ROWS, 3))), (2,))
        self.assertEqual(self.path(("either", wide(8), ROWS)), ())

    def test_changed_terms(self):
        for columns, terms in SOME.items():
            for term in [one for one in terms if len(repr(one)) < 130][:12]:
                for wrong in changed(term, THORNS):
                    path = wrong_path(columns, wrong)
                    told = error_of(need_term, columns, wrong)
                    self.assertEqual(told, None if path is None else ("BadTerm", {"path": path}), wrong)

    def test_deep_and_long_terms_that_are_changed(self):
        source = Random(9)
        for term in [one for one in SOME[3] if len(repr(one)) > 200][:25]:
            wrongs = list(changed(term, (None, ROWS, 0, (0,), ("turned", ROWS), tall(4), wide(4))))
            for wrong in source.sample(wrongs, 40):
                path = wrong_path(3, wrong)
                told = error_of(need_term, 3, wrong)
                self.assertEqual(told, None if path is None else ("BadTerm", {"path": path}), wrong)

    def test_errors_in_turn(self):
        for call, rest in ((need_term, ()), (parts_of, ()), (kids_of, ()), (choices_of, ()), (doers, (None,))):
            for columns in (0, 9, True, None, [2], Oddity(), Thorny()):
                kind, fields = error_of(call, columns, None, *rest)
                self.assertEqual(kind, "BadNumber")
                self.assertIs(fields["given"], columns)
            for term, path in ((None, ()), (("turned", None), (1,)), (("either", ROWS, ("equal", ROWS, 2)), (2,))):
                self.assertEqual(error_of(call, 2, term, *rest), ("BadTerm", {"path": path}))


class Choices(unittest.TestCase):
    def test_beside_the_words(self):
        for columns in (1, 2, 3):
            for term in SOME[columns]:
                told = tuple(lookups_by_words(columns, part) for part in parts_by_words(term) if not is_free(part))
                self.assertEqual(choices_of(columns, term), told, term)

    def test_by_hand(self):
        hard = ("grouped", ("sorted", ROWS, ((0, "up"),)), (1,))
        one = ("equal", ROWS, 1)
        self.assertEqual(choices_of(2, ROWS), ())
        self.assertEqual(choices_of(2, hard), ((),))
        self.assertEqual(choices_of(2, ("either", one, ("either", ROWS, hard))), ((((1,), ()),), ()))
        self.assertEqual(choices_of(2, ("either", hard, one)), ((), (((1,), ()),)))
        self.assertEqual(choices_of(2, ("grouped", one, (0,))), ((((1,), ((0, "up"),)),),))
        self.assertEqual(choices_of(8, ("either", one, one)), ((((1,), ()),),) * 2)
        # they are NEEDS, where none is hard and some PART is not free
        self.assertEqual(least_for(3, choices_of(3, ("either", ("grouped", ROWS, (0, 1)), ("equal", ROWS, 1)))), 1)


class Doers(unittest.TestCase):
    def test_beside_the_words(self):
        source = Random(7)
        for columns in (1, 2, 3):
            for term in SOME[columns]:
                for many in (0, 1, 3, 12):
                    indexes = tuple(source.choice(all_indexes(columns)) for _ in range(many))
                    told = doers(columns, term, indexes)
                    self.assertIs(type(told), tuple)
                    self.assertEqual(len(told), len(parts_of(columns, term)))
                    for part, number in zip(parts_of(columns, term), told):
                        doing = [at for at, index in enumerate(indexes) if does_do(columns, index, part) is not None]
                        self.assertEqual(number, doing[0] if doing else None)
                        if is_hard(columns, part):
                            self.assertIsNone(number)
                        elif doing and not is_free(part):
                            self.assertTrue(lookups_for(columns, part))

    def test_by_hand(self):
        one, both = ((1, "up"),), ((0, "down"), (1, "up"))
        term = ("either", ("equal", ROWS, 1), ("either", ROWS, ("sorted", ROWS, ((0, "up"), (1, "down")))))
        self.assertEqual(doers(2, term, ()), (None, None, None))
        self.assertEqual(doers(2, term, (one, both)), (0, 0, 1))
        self.assertEqual(doers(2, term, (both, both, one, one)), (2, 0, 0))
        self.assertEqual(doers(2, term, (both,)), (None, 0, 0))
        self.assertEqual(doers(2, ROWS, (both,)), (0,))
        self.assertEqual(doers(2, ROWS, ()), (None,))
        self.assertEqual(doers(2, ("grouped", ("sorted", ROWS, ((0, "up"),)), (1,)), (one, both)), (None,))

    def test_indexes(self):
        one = ((0, "up"),)
        for indexes in (None, 0, True, "x", [], [one], {}, (one,) * 13, (None,) * 13, Oddity(), Thorny()):
            self.assertEqual(error_of(doers, 2, ROWS, indexes), ("BadIndexes", {"number": None}))
        for wrong in (None, 0, True, "x", (), [], {}, [(0, "up")], ((2, "up"),), ((True, "up"),), ((0, "up"),) * 2,
                      ((0, "Up"),), (0, "up"), Oddity(), Thorny(), (Thorny(),)):
            self.assertEqual(error_of(doers, 2, ROWS, (wrong,)), ("BadIndexes", {"number": 0}))
            self.assertEqual(error_of(doers, 2, ROWS, (one, one, wrong, None)), ("BadIndexes", {"number": 2}))
            self.assertEqual(error_of(doers, 2, ROWS, (one,) * 11 + (wrong,)), ("BadIndexes", {"number": 11}))
        self.assertEqual(doers(2, ROWS, (one,) * 12), (0,))


if __name__ == "__main__":
    unittest.main()
