"""fewindexes/books.py: Books, their deeds, trials (point 32)."""

import unittest
from contextlib import contextmanager
from random import Random

from fewindexes.books import Book, under
from fewindexes.errors import FewError, Missing, NothingLeft, TooMany
from fewindexes.indexes import does_serve
from fewindexes.tables import rows_for
from fewindexes.terms import doers
from book_cases import PlainBook, some_deeds, told_by
from cases import ODD_THINGS, THORNS, Oddity, Thorny, all_indexes, all_lookups, changed, error_of
from query_cases import some_terms

UP, DOWN = ((0, "up"),), ((0, "down"),)


def book_of(columns, rows=(), indexes=(), keys=()):
    """A Book with these, made by deeds in this turn."""
    book = Book(columns)
    for row in rows:
        book.add(row)
    for index in indexes:
        book.make(index)
    for key in keys:
        book.claim(key)
    return book


def do(book, deed, *given):
    return error_of(getattr(book, deed), *given)


class Drawn(unittest.TestCase):
    def held_beside(self, columns, deeds):
        book, plain = Book(columns), PlainBook(columns)
        seen = {}
        for deed, thing in deeds:
            told, due = do(book, deed, thing), plain.due(deed, thing)
            self.assertEqual(told, due, (deed, thing))
            self.assertEqual(told_by(book), plain.told(), (deed, thing))
            seen[due and due[0]] = seen.get(due and due[0], 0) + 1
        return seen

    def test_drawn_deeds(self):
        for columns in (1, 2, 3):
            for seed in range(12):
                seen = self.held_beside(columns, some_deeds(columns, 250, seed))
                self.assertGreater(seen[None], 40)

    def test_full_books(self):
        seen = {}
        for seed in range(6):
            for weights in ((9, 1, 4, 1, 0, 0, 1), (9, 1, 1, 0, 1, 3, 1), (2, 6, 1, 1, 4, 2, 2)):
                for name, many in self.held_beside(2, some_deeds(2, 300, seed, range(-20, 20), weights)).items():
                    seen[name] = seen.get(name, 0) + many
        for name in ("BadRow", "BadKey", "BadNumber", "BadIndex", "Missing", "Broken", "TooMany", "NothingLeft"):
            self.assertGreater(seen[name], 3, name)

    def test_many_keys(self):
        for seed in range(8):
            seen = self.held_beside(4, some_deeds(4, 200, seed, range(-9, 9), (1, 1, 0, 0, 9, 1, 0)))
            self.assertGreater(seen["TooMany"], 0)

    def test_each_returns_none(self):
        book = Book(2)
        self.assertIsNone(book.add((1, 2)))
        self.assertIsNone(book.make(UP))
        self.assertIsNone(book.claim((0,)))
        self.assertIsNone(book.claim((0,)))
        self.assertIsNone(book.waive((0,)))
        self.assertIsNone(book.drop(0))
        self.assertIsNone(book.remove((1, 2)))
        self.assertIsNone(book.undo())
        self.assertIsNone(book.undo(2))


class ByHand(unittest.TestCase):
    def test_at_first(self):
        for columns in range(1, 9):
            self.assertEqual(told_by(Book(columns)), ((), (), (), 0))

    def test_columns(self):
        for thing in (0, 9, -1, True, None, "2", (2,), [2], 10 ** 59, Oddity(), Thorny()):
            kind, fields = error_of(Book, thing)
            self.assertEqual(kind, "BadNumber")
            self.assertIs(fields["given"], thing)

    def test_rows_ascend(self):
        book = book_of(2, ((1, 0), (0, 5), (1, 0), (0, -5)))
        self.assertEqual(book.table, ((0, -5), (0, 5), (1, 0), (1, 0)))
        book.remove((1, 0))
        self.assertEqual(book.table, ((0, -5), (0, 5), (1, 0)))
        book.remove((1, 0))
        self.assertEqual(book.table, ((0, -5), (0, 5)))
        self.assertEqual(do(book, "remove", (1, 0)), ("Missing", {"given": (1, 0)}))
        self.assertEqual(len(book), 6)

    def test_thirty_rows(self):
        book = book_of(1, [(value,) for value in range(30)], keys=((0,),))
        self.assertEqual(len(book.table), 30)
        for row in ((30,), (0,), (-1,)):
            self.assertEqual(do(book, "add", row), ("TooMany", {"most": 30}))
        self.assertEqual(do(book, "add", (0, 0)), ("BadRow", {"given": (0, 0)}))
        self.assertEqual(len(book), 31)
        book.remove((4,))
        self.assertEqual(do(book, "add", (5,)), ("Broken", {"given": (0,)}))
        book.add((4,))
        self.assertEqual(do(book, "remove", (30,)), ("Missing", {"given": (30,)}))

    def test_the_first_key_that_is_broken(self):
        book = book_of(3, ((0, 0, 0),), keys=((1, 2), (2,), (0, 2), ()))
        self.assertEqual(book.held_keys, ((), (0, 2), (1, 2), (2,)))
        self.assertEqual(do(book, "add", (5, 5, 5)), ("Broken", {"given": ()}))
        book.waive(())
        self.assertEqual(do(book, "add", (0, 0, 0)), ("Broken", {"given": (0, 2)}))
        self.assertEqual(do(book, "add", (1, 0, 0)), ("Broken", {"given": (1, 2)}))
        self.assertEqual(do(book, "add", (1, 1, 0)), ("Broken", {"given": (2,)}))
        self.assertIsNone(do(book, "add", (0, 0, 1)))

    def test_one_row_at_most(self):
        book = book_of(2, keys=((),))
        book.add((0, 0))
        for row in ((0, 0), (7, 8)):
            self.assertEqual(do(book, "add", row), ("Broken", {"given": ()}))
        self.assertEqual(book.table, ((0, 0),))
        book.waive(())
        book.add((7, 8))
        self.assertEqual(do(book, "claim", ()), ("Broken", {"given": ()}))
        self.assertEqual(book.held_keys, ())

    def test_twelve_indexes(self):
        book = book_of(2, indexes=[UP] * 11)
        book.make(DOWN)
        self.assertEqual(book.indexes, (UP,) * 11 + (DOWN,))
        self.assertEqual(do(book, "make", UP), ("TooMany", {"most": 12}))
        self.assertEqual(do(book, "make", ((2, "up"),)), ("BadIndex", {"given": ((2, "up"),)}))
        self.assertEqual(len(book), 12)

    def test_those_behind_come_down(self):
        told = [((0, "up"),), ((1, "up"),), ((0, "down"),), ((1, "down"),)]
        book = book_of(2, indexes=told)
        book.drop(1)
        self.assertEqual(book.indexes, (told[0], told[2], told[3]))
        book.drop(2)
        self.assertEqual(book.indexes, (told[0], told[2]))
        book.drop(0)
        self.assertEqual(book.indexes, (told[2],))
        for which in (1, -1, 12):
            self.assertEqual(do(book, "drop", which), ("BadNumber", {"given": which}))
        book.drop(0)
        self.assertEqual(do(book, "drop", 0), ("BadNumber", {"given": 0}))

    def test_a_key_that_is_there(self):
        book = book_of(2, ((0, 0), (0, 1)), keys=((1,),))
        for _ in range(3):
            self.assertIsNone(book.claim((1,)))
        self.assertEqual((len(book), book.held_keys), (3, ((1,),)))
        self.assertEqual(do(book, "claim", (0,)), ("Broken", {"given": (0,)}))
        book.undo()
        self.assertEqual(book.held_keys, ())
        self.assertEqual(do(book, "waive", (1,)), ("Missing", {"given": (1,)}))

    def test_eight_keys(self):
        lots = ((), (0,), (0, 1), (0, 1, 2), (0, 2), (1,), (1, 2), (2,))
        book = book_of(4, keys=lots[::-1])
        self.assertEqual(book.held_keys, lots)
        self.assertEqual(do(book, "claim", (3,)), ("TooMany", {"most": 8}))
        self.assertIsNone(book.claim((2,)))
        self.assertEqual(do(book, "claim", (4,)), ("BadKey", {"given": (4,)}))
        self.assertEqual(len(book), 8)
        book = book_of(4, ((0, 0, 0, 0), (1, 1, 1, 0)), keys=lots[1:])
        book.claim((0, 3))
        # one more than eight comes ahead of a broken one
        self.assertEqual(do(book, "claim", (3,)), ("TooMany", {"most": 8}))
        book.waive((0, 3))
        self.assertEqual(do(book, "claim", (3,)), ("Broken", {"given": (3,)}))

    def test_rows_of_many_columns(self):
        row = tuple(10 ** 59 + at for at in range(8))
        book = book_of(8, (row,), (tuple((at, "up") for at in range(8)),), (tuple(range(8)), (7,)))
        self.assertEqual(book.table, (row,))
        self.assertEqual(do(book, "add", row), ("Broken", {"given": tuple(range(8))}))
        self.assertEqual(do(book, "add", row[:7] + (0,)), None)


class Refused(unittest.TestCase):
    def each(self, deed, right, kind, field="given"):
        """What is refused of anything, whatever the Book has; nothing is changed by it."""
        for book in (Book(2), book_of(2, ((0, 0), (0, 1)), (UP, DOWN), ((0, 1), (1,)))):
            before = told_by(book)
            for thing in [*changed(right, THORNS), Oddity(), Thorny()]:
                plain = PlainBook(2)
                plain.rows, plain.indexes, plain.keys = map(list, before[:3])
                due = plain.due(deed, thing)
                if due is not None and due[0] == kind:
                    told = do(book, deed, thing)
                    self.assertEqual(told[0], kind)
                    self.assertIs(told[1][field], thing)
                    self.assertEqual(told_by(book), before)

    def test_of_anything(self):
        self.each("add", (0, 1), "BadRow")
        self.each("remove", (0, 1), "BadRow")
        self.each("make", ((0, "up"), (1, "down")), "BadIndex")
        self.each("drop", 2, "BadNumber")
        self.each("claim", (0, 1), "BadKey")
        self.each("waive", (0, 1), "BadKey")
        self.each("undo", 0, "BadNumber")

    def test_what_is_right_after_it(self):
        for wrong in changed((0, 1), THORNS):
            if PlainBook(2).due("add", wrong) is None:
                self.assertEqual(book_of(2, (wrong,)).table, (wrong,))
        for wrong in changed((0, 1), THORNS):
            if PlainBook(2).due("claim", wrong) is None:
                self.assertEqual(book_of(2, keys=(wrong,)).held_keys, (wrong,))


class Reading(unittest.TestCase):
    def test_beside_the_parts_ahead(self):
        source = Random(5)
        for columns in (1, 2, 3):
            for _ in range(30):
                rows = [tuple(source.randint(0, 1) for _ in range(columns)) for _ in range(source.randint(0, 9))]
                indexes = [source.choice(all_indexes(columns)) for _ in range(source.randint(0, 6))]
                book = book_of(columns, rows, indexes)
                deeds = len(book)
                for lookup in source.sample(all_lookups(columns), min(8, len(all_lookups(columns)))):
                    values = tuple(source.randint(0, 1) for _ in lookup[0])
                    serving = [at for at, index in enumerate(indexes) if does_serve(columns, index, lookup)]
                    told = rows_for(columns, tuple(sorted(rows)), lookup, values)
                    self.assertEqual(book.read(lookup, values), (serving[0] if serving else None, told))
                self.assertEqual(len(book), deeds)

    def test_by_hand(self):
        book = book_of(2, ((0, 3), (1, 1), (1, 2), (1, 2), (1, 0)), (((1, "up"),), ((0, "up"), (1, "up"))))
        self.assertEqual(book.read(((0,), ((1, "down"),)), (1,)), (1, ((1, 2), (1, 2), (1, 1), (1, 0))))
        self.assertEqual(book.read(((1,), ()), (7,)), (0, ()))
        self.assertEqual(book.read(((), ((1, "down"), (0, "up"))), ()),
                         (None, ((0, 3), (1, 2), (1, 2), (1, 1), (1, 0))))
        book.drop(0)
        self.assertEqual(book.read(((0,), ()), (0,)), (0, ((0, 3),)))
        self.assertEqual(book.read(((1,), ()), (3,)), (None, ((0, 3),)))

    def test_refused(self):
        book = book_of(2, ((0, 0),), (UP,))
        right = ((0,), ((1, "up"),))
        for wrong in changed(right, THORNS):
            for values in ((0,), None, Thorny()):
                told = do(book, "read", wrong, values)
                if told is None or told[0] != "BadLookup":
                    self.assertIn(type(wrong[0]), (tuple,))
                    self.assertEqual(all_lookups(2).count(wrong), 1)
                else:
                    self.assertIs(told[1]["given"], wrong)
                    self.assertFalse([one for one in all_lookups(2) if repr(one) == repr(wrong)])
        for wrong in (*ODD_THINGS, (0, 0), (True,), ("0",), ((0,),), Oddity(), Thorny(), (Oddity(),), (Thorny(),)):
            if repr(wrong) != "(0,)":
                kind, fields = do(book, "read", right, wrong)
                self.assertEqual(kind, "BadValues")
                self.assertIs(fields["given"], wrong)
        self.assertEqual(told_by(book), (((0, 0),), (UP,), (), 2))

    def test_covers(self):
        source = Random(8)
        for columns in (1, 2, 3):
            for term in some_terms(columns, 60, 40 + columns):
                indexes = tuple(source.choice(all_indexes(columns)) for _ in range(source.choice((0, 1, 3, 12))))
                book = book_of(columns, (), indexes)
                self.assertEqual(book.covers(term), doers(columns, term, indexes))
                self.assertEqual(len(book), len(indexes))
        book = Book(2)
        self.assertEqual(book.covers(("rows",)), (None,))
        for term, path in ((None, ()), (("turned", None), (1,)), (("equal", ("rows",), 2), ()), (Thorny(), ()),
                           (("either", ("rows",), Oddity()), (2,))):
            self.assertEqual(do(book, "covers", term), ("BadTerm", {"path": path}))


class Undo(unittest.TestCase):
    def test_many_at_once(self):
        for columns in (1, 2):
            for seed in range(10):
                book, states = Book(columns), []
                for deed, thing in some_deeds(columns, 60, seed + 50, weights=(6, 2, 3, 1, 2, 1, 0)):
                    before, many = told_by(book), len(book)
                    do(book, deed, thing)
                    if len(book) > many:
                        states.append(before)
                self.assertEqual(len(book), len(states))
                source = Random(seed)
                while states:
                    many = source.randint(1, len(states))
                    book.undo(many) if many > 1 else book.undo()
                    self.assertEqual(told_by(book), states[-many])
                    del states[-many:]
                self.assertEqual(do(book, "undo"), ("NothingLeft", {"many": 1}))

    def test_by_name(self):
        book = book_of(1, ((0,), (1,), (2,)))
        book.undo(many=2)
        self.assertEqual(book.table, ((0,),))

    def test_not_so_many(self):
        book = book_of(1, ((0,), (1,)))
        for many in (3, 4, 10 ** 59):
            self.assertEqual(do(book, "undo", many), ("NothingLeft", {"many": many}))
        self.assertEqual(told_by(book), (((0,), (1,)), (), (), 2))
        book.undo(2)
        for many in (1, 2):
            self.assertEqual(do(book, "undo", many), ("NothingLeft", {"many": many}))
        for many in (0, -1, True, None, "1", (), Oddity(), Thorny()):
            kind, fields = do(book, "undo", many)
            self.assertEqual(kind, "BadNumber")
            self.assertIs(fields["given"], many)

    def test_it_is_no_deed(self):
        book = book_of(1, ((0,), (1,), (2,)))
        book.undo()
        book.add((5,))
        book.undo()
        self.assertEqual((len(book), book.table), (2, ((0,), (1,))))
        book.undo(2)
        self.assertEqual(told_by(book), ((), (), (), 0))


class Copies(unittest.TestCase):
    def test_each_goes_on_by_itself(self):
        for seed in range(10):
            book, plain = Book(2), PlainBook(2)
            for deed, thing in some_deeds(2, 40, seed):
                do(book, deed, thing)
                plain.due(deed, thing)
            twin, other = book.copy(), PlainBook(2)
            other.rows, other.indexes, other.keys = plain.state()
            other.past = list(plain.past)
            self.assertIs(type(twin), Book)
            self.assertTrue(twin == book)
            for one, two in zip(some_deeds(2, 60, seed + 20), some_deeds(2, 60, seed + 40)):
                self.assertEqual(do(book, *one), plain.due(*one))
                self.assertEqual(do(twin, *two), other.due(*two))
                self.assertEqual(told_by(book), plain.told())
                self.assertEqual(told_by(twin), other.told())
            while other.past:
                self.assertEqual(do(twin, "undo"), other.due("undo"))
                self.assertEqual(told_by(twin), other.told())
            self.assertEqual(told_by(book), plain.told())

    def test_what_can_be_taken_back(self):
        book = book_of(2, ((0, 0), (1, 1)), (UP,))
        twin = book.copy()
        twin.undo(3)
        self.assertEqual(told_by(twin), ((), (), (), 0))
        self.assertEqual(len(book), 3)
        book.undo()
        self.assertEqual(told_by(twin.copy()), ((), (), (), 0))


class Trials(unittest.TestCase):
    def test_the_book_itself(self):
        book = book_of(2, ((0, 0),), (UP,), ((1,),))
        before = told_by(book)
        with book.trial() as one:
            self.assertIs(one, book)
            one.add((1, 1))
            one.drop(0)
            one.waive((1,))
            self.assertEqual(told_by(book), (((0, 0), (1, 1)), (), (), 6))
        self.assertEqual(told_by(book), before)
        for _ in range(3):
            book.undo()
        self.assertEqual(told_by(book), ((), (), (), 0))

    def test_drawn_blocks(self):
        for seed in range(25):
            book, plain = Book(2), PlainBook(2)
            for deed, thing in some_deeds(2, 30, seed):
                do(book, deed, thing)
                plain.due(deed, thing)
            with book.trial():
                for deed, thing in some_deeds(2, 40, seed + 100, weights=(4, 3, 2, 2, 2, 2, 6)):
                    do(book, deed, thing)
            self.assertEqual(told_by(book), plain.told())
            while plain.past:
                self.assertEqual(do(book, "undo"), plain.due("undo"))
                self.assertEqual(told_by(book), plain.told())

    def test_what_was_done_ahead_is_taken_back_in_it(self):
        book = book_of(1, ((0,), (1,), (2,)))
        with book.trial():
            book.undo(3)
            book.add((7,))
            self.assertEqual(told_by(book), (((7,),), (), (), 1))
        self.assertEqual(told_by(book), (((0,), (1,), (2,)), (), (), 3))
        book.undo()
        self.assertEqual(told_by(book), (((0,), (1,)), (), (), 2))
        book.undo(2)
        self.assertEqual(told_by(book), ((), (), (), 0))

    def test_errors_go_on(self):
        book = book_of(1, ((0,),), keys=((0,),))
        before = told_by(book)
        for wrong, raised in ((lambda: book.add((0,)), FewError), (lambda: book.undo(9), NothingLeft),
                              (lambda: book.remove((5,)), Missing), (lambda: book.add(None), FewError),
                              (lambda: [book.make(UP) for _ in range(13)], TooMany),
                              (lambda: 1 // 0, ZeroDivisionError), (lambda: [][0], IndexError),
                              (lambda: book.nothing, AttributeError)):
            with self.assertRaises(raised):
                with book.trial():
                    book.add((5,) if raised is not Missing else (6,))
                    wrong()
            self.assertEqual(told_by(book), before)
        for stop in (KeyboardInterrupt, SystemExit, GeneratorExit):
            with self.assertRaises(stop):
                with book.trial():
                    book.undo()
                    raise stop
            self.assertEqual(told_by(book), before)

    def test_left_from_the_middle(self):
        book = book_of(1, ((0,),))

        def left():
            for value in range(5):
                with book.trial():
                    book.add((value,))
                    if value == 3:
                        return book.table
                    if value == 1:
                        continue
                    self.assertEqual(len(book), 2)
            return None
        self.assertEqual(left(), ((0,), (3,)))
        self.assertEqual(told_by(book), (((0,),), (), (), 1))

    def test_one_in_another(self):
        book = book_of(1, ((0,),))
        with book.trial():
            book.add((1,))
            with book.trial():
                book.undo(2)
                with book.trial():
                    book.make(UP)
                self.assertEqual(told_by(book), ((), (), (), 0))
                book.add((9,))
            self.assertEqual(told_by(book), (((0,), (1,)), (), (), 2))
            book.undo()
            book.undo()
        self.assertEqual(told_by(book), (((0,),), (), (), 1))
        with self.assertRaises(FewError):
            with book.trial(), book.trial():
                book.add((1,))
                book.add(None)
        self.assertEqual(told_by(book), (((0,),), (), (), 1))

    def test_made_ahead_of_a_deed(self):
        book = book_of(1, ((0,),))
        early, other = book.trial(), book.trial()
        book.add((1,))
        with early as one:
            self.assertIs(one, book)
            book.undo(2)
            book.make(DOWN)
            with other:
                book.make(UP)
            self.assertEqual(told_by(book), ((), (DOWN,), (), 1))
        self.assertEqual(told_by(book), (((0,), (1,)), (), (), 2))

    def test_a_copy_from_within(self):
        book = book_of(1, ((0,),))
        with book.trial():
            book.add((1,))
            twin = book.copy()
            with twin.trial():
                twin.undo(2)
            book.add((2,))
        self.assertEqual(told_by(book), (((0,),), (), (), 1))
        self.assertEqual(told_by(twin), (((0,), (1,)), (), (), 2))

    def test_not_entered(self):
        book = book_of(1, ((0,),))
        book.trial()
        book.add((1,))
        self.assertEqual(len(book), 2)


class Under(unittest.TestCase):
    def test_what_the_deed_returns(self):
        book = book_of(1, ((0,),))
        thing = object()
        self.assertIs(under(book.trial(), lambda one: thing), thing)
        self.assertIs(under(book.trial(), lambda one: one), book)
        self.assertIsNone(under(book.trial(), lambda one: one.add((1,))))
        self.assertEqual(under(book.trial(), lambda one: (one.undo(), one.table, len(one))), (None, (), 0))
        self.assertEqual(told_by(book), (((0,),), (), (), 1))

    def test_trials_in_it(self):
        book = book_of(1, ((0,),))
        told = under(book.trial(), lambda one: (one.add((1,)), under(one.trial(), lambda two: (two.add((2,)), len(two))),
                                                len(one)))
        self.assertEqual(told, (None, (None, 3), 2))
        self.assertEqual(len(book), 1)

    def test_errors_go_on(self):
        book = book_of(1, ((0,),))
        for deed, raised in ((lambda one: one.undo(5), NothingLeft), (lambda one: 1 // 0, ZeroDivisionError),
                             (lambda one: one.add(0), FewError)):
            with self.assertRaises(raised):
                under(book.trial(), deed)
            self.assertEqual(len(book), 1)

    def test_any_manager(self):
        seen = []

        @contextmanager
        def other():
            seen.append("in")
            yield 7
            seen.append("out")
        self.assertEqual(under(other(), lambda one: seen.append(one) or one + 1), 8)
        self.assertEqual(seen, ["in", 7, "out"])


class Equal(unittest.TestCase):
    def test_come_to_the_same_otherwise(self):
        one = book_of(2, ((0, 1), (1, 0)), (UP, DOWN), ((0,), (1,)))
        other = Book(2)
        for key in ((1,), (0, 1), (0,)):
            other.claim(key)
        for index in (DOWN, UP, DOWN):
            other.make(index)
        other.drop(0)
        other.waive((0, 1))
        for row in ((1, 0), (0, 1)):
            other.add(row)
        self.assertNotEqual(len(one), len(other))
        self.assertTrue(one == other and other == one and not one != other)
        self.assertTrue(one == one.copy())
        other.undo()
        self.assertTrue(one != other and not one == other)

    def test_unlike(self):
        base = ((0, 1), (1, 0)), (UP, DOWN), ((0,),)
        one = book_of(2, *base)
        for wrong in ((base[0][:1], *base[1:]), (base[0], (DOWN, UP), base[2]), (base[0], (UP,), base[2]),
                      (*base[:2], ()), (*base[:2], ((1,),)), (((0, 1), (1, 2)), *base[1:])):
            self.assertFalse(one == book_of(2, *wrong))
            self.assertTrue(one != book_of(2, *wrong))

    def test_other_columns(self):
        for columns in range(1, 9):
            for other in range(1, 9):
                self.assertEqual(Book(columns) == Book(other), columns == other)
        self.assertFalse(book_of(2, (), (UP,), ((0,),)) == book_of(3, (), (UP,), ((0,),)))

    def test_what_is_no_book(self):
        book = Book(1)
        for thing in (*ODD_THINGS, ((), (), ()), PlainBook(1), Oddity(), Thorny(), Book):
            self.assertIs(book == thing, False)
            self.assertIs(book != thing, True)


class Given(unittest.TestCase):
    def test_what_is_told_cannot_be_changed(self):
        book = book_of(2, ((0, 1), (1, 0)), (UP, DOWN), ((0,),))
        for told in (book.table, book.indexes, book.held_keys, book.read(((0,), ()), (1,)), book.covers(("rows",))):
            self.assertIs(type(told), tuple)
            hash(told)

    def test_properties_are_only_read(self):
        book = Book(1)
        for name in ("table", "indexes", "held_keys"):
            self.assertIsInstance(vars(Book)[name], property)
            with self.assertRaises(AttributeError):
                setattr(book, name, ())

    def test_nothing_that_is_passed_is_changed(self):
        for deed in ("add", "remove", "make", "drop", "claim", "waive", "undo", "covers"):
            for soft in ([0], [[0]], {0: 1}, ([0],), [("up",)], {}):
                passed = [part for part in soft] if isinstance(soft, list) else soft
                self.assertIsNotNone(do(Book(1), deed, passed))
                self.assertEqual(passed, soft)


if __name__ == "__main__":
    unittest.main()
