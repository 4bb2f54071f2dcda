"""fewindexes/desk.py: a Book led by lines (points 32 and 34)."""

import unittest
from random import Random

from fewindexes.books import Book
from fewindexes.desk import Desk
from fewindexes.terms import doers
from fewindexes.texts import index_text, term_text
from book_cases import PlainBook, some_deeds, told_by
from cases import ODD_THINGS, Oddity, Thorny, all_indexes, error_of
from query_cases import some_terms, wrong_path
from text_cases import Wrong, a_term, an_index, an_integer, bent_texts, read_lines, read_words


def some_row():
    word, values = None, []
    while True:
        word = yield "end or signed"
        if word is None:
            return tuple(values)
        values.append(int(word))


def some_lot():
    columns = []
    while True:
        word = yield "end or integer"
        if word is None:
            return tuple(columns)
        columns.append(int(word))


def a_query():
    return (yield from a_term([]))


BEHIND = {"add": some_row, "remove": some_row, "make": an_index, "drop": an_integer, "claim": some_lot, "waive": some_lot,
          "covers": a_query}
ALONE = ("rows", "indexes", "keys", "undo", "deeds")


def due(plain, line):
    """The answer to a line, by a BOOK led by hand."""
    if type(line) is not str:
        return "no"
    word, *rest = line.split(" ")
    if word in ALONE:
        if rest:
            return "no"
        if word == "undo":
            return "done" if plain.due("undo") is None else "nothing"
        return str({"rows": len(plain.rows), "indexes": len(plain.indexes), "keys": len(plain.keys),
                    "deeds": len(plain.past)}[word])
    if word not in BEHIND or "\n" in line:
        return "no"
    try:
        thing = read_words(BEHIND[word](), rest)
    except Wrong:
        return "no"
    if word == "covers":
        if wrong_path(plain.columns, thing) is not None:
            return "no"
        return " ".join("none" if number is None else str(number)
                        for number in doers(plain.columns, thing, tuple(plain.indexes)))
    return "no" if plain.due(word, thing) is not None else "done"


def line_of(deed, thing):
    """The line that tells a deed with what it is passed."""
    if deed == "undo":
        return "undo"
    if deed == "make":
        return "make " + index_text(8, thing)
    return " ".join([deed, *map(str, thing if type(thing) is tuple else (thing,))])


class Said(unittest.TestCase):
    def held(self, desk, plain, line):
        self.assertEqual(desk.say(line), due(plain, line), line)
        self.assertEqual(told_by(desk.book), plain.told(), line)

    def test_drawn_lines(self):
        for columns in (1, 2, 3):
            terms = some_terms(columns, 30, columns)
            for seed in range(8):
                source, desk, plain = Random(seed), Desk(str(columns)), PlainBook(columns)
                for deed, thing in some_deeds(columns, 150, seed, range(-2, 3)):
                    self.held(desk, plain, line_of(deed, thing))
                    self.held(desk, plain, source.choice(ALONE))
                    self.held(desk, plain, "covers " + term_text(columns, source.choice(terms)))

    def test_full_books(self):
        for seed in range(5):
            desk, plain = Desk("2"), PlainBook(2)
            for weights in ((9, 0, 4, 0, 1, 0, 0), (9, 1, 4, 1, 2, 2, 1)):
                for deed, thing in some_deeds(2, 150, seed, range(-40, 41), weights):
                    self.held(desk, plain, line_of(deed, thing))
            self.assertEqual((desk.say("rows"), desk.say("indexes")), (str(len(plain.rows)), str(len(plain.indexes))))

    def test_bent_lines(self):
        for begun in ((), ("add 0 1", "add -3 4", "make 0 up 1 down", "make 1 up", "claim 0", "claim 0 1")):
            for line in ("add 0 -7", "remove -3 4", "make 1 up 0 down", "drop 1", "claim 1", "claim", "waive 0 1", "waive",
                         "covers either equal 1 rows sorted 2 0 up 1 down rows", "rows", "indexes", "keys", "undo", "deeds"):
                for bent in bent_texts(line, ("-2", "-" + "1" * 31, "-" + "1" * 32, "-", "--1", "add", "undo", "claim")):
                    desk, plain = Desk("2"), PlainBook(2)
                    for ahead in begun:
                        self.held(desk, plain, ahead)
                    self.held(desk, plain, bent)

    def test_what_is_no_string(self):
        desk = Desk("2")
        desk.say("add 1 2")
        for line in (*[thing for thing in ODD_THINGS if type(thing) is not str], b"rows", ["rows"], ("add", 1, 2), 1.5, Oddity(),
                     Thorny()):
            self.assertEqual(desk.say(line), "no")
            self.assertEqual(told_by(desk.book), (((1, 2),), (), (), 1))


class ByHand(unittest.TestCase):
    def each(self, desk, *lines):
        for line, answer in lines:
            self.assertEqual(desk.say(line), answer, line)

    def test_each_line(self):
        desk = Desk("2")
        self.each(desk, ("rows", "0"), ("indexes", "0"), ("keys", "0"), ("deeds", "0"), ("undo", "nothing"),
                  ("add 1 -2", "done"), ("add 1 -2", "done"), ("rows", "2"), ("remove 1 -2", "done"), ("rows", "1"),
                  ("remove 1 2", "no"), ("deeds", "3"), ("make 0 up", "done"), ("make 1 down 0 up", "done"), ("indexes", "2"),
                  ("covers rows", "0"), ("covers equal 1 rows", "1"), ("covers either sorted 2 0 up 1 up rows equal 1 rows", "none 1"),
                  ("covers between 0 rows", "0"), ("drop 0", "done"), ("covers between 0 rows", "none"), ("drop 1", "no"),
                  ("claim 0", "done"), ("claim", "done"), ("keys", "2"), ("add 5 5", "no"), ("waive", "done"), ("add 1 5", "no"),
                  ("add 5 5", "done"), ("claim", "no"), ("keys", "1"), ("waive 1", "no"), ("waive 0", "done"), ("deeds", "11"))
        self.assertEqual(desk.book.table, ((1, -2), (5, 5)))

    def test_undo_down_to_nothing(self):
        desk = Desk("1")
        lines = ("add 3", "make 0 up", "claim 0", "drop 0", "waive 0", "remove 3")
        for line in lines:
            self.assertEqual(desk.say(line), "done")
        for many in range(len(lines), 0, -1):
            self.assertEqual((desk.say("deeds"), desk.say("undo")), (str(many), "done"))
        for _ in range(3):
            self.assertEqual(desk.say("undo"), "nothing")
        self.assertEqual(told_by(desk.book), ((), (), (), 0))

    def test_a_key_that_is_there(self):
        desk = Desk("2")
        self.each(desk, ("claim 0 1", "done"), ("claim 0 1", "done"), ("claim", "done"), ("claim", "done"), ("deeds", "2"),
                  ("keys", "2"), ("undo", "done"), ("keys", "1"), ("claim 1 0", "no"), ("claim 0 0", "no"), ("claim 2", "no"),
                  ("claim 00", "no"), ("claim -0", "no"), ("claim ", "no"), ("waive", "no"), ("waive 0 1", "done"), ("keys", "0"))

    def test_thirty_rows_twelve_indexes_eight_keys(self):
        desk = Desk("4")
        for value in range(30):
            self.assertEqual(desk.say(f"add {value} {-value} 0 {'9' * 31}"), "done")
        self.each(desk, ("add 30 30 30 30", "no"), ("rows", "30"), ("remove 3 -3 0 " + "9" * 31, "done"), ("rows", "29"))
        for _ in range(12):
            self.assertEqual(desk.say("make 3 down"), "done")
        self.each(desk, ("make 3 down", "no"), ("indexes", "12"), ("drop 11", "done"), ("drop 11", "no"), ("indexes", "11"))
        for lot in ("0", "1", "0 1", "0 2", "0 3", "1 2", "1 3", "0 1 2"):
            self.assertEqual(desk.say("claim " + lot), "done")
        self.each(desk, ("claim 0 1 3", "no"), ("keys", "8"), ("claim 0 1 2", "done"), ("waive 0", "done"), ("claim 0 1 3", "done"),
                  ("keys", "8"), ("claim 0", "no"))

    def test_signs_and_figures(self):
        desk = Desk("1")
        for word, answer in (("0", "done"), ("-0", "no"), ("-1", "done"), ("--1", "no"), ("+1", "no"), ("-", "no"), ("-01", "no"),
                             ("01", "no"), ("00", "no"), ("1-", "no"), ("- 1", "no"), ("9" * 31, "done"), ("9" * 32, "no"),
                             ("-" + "9" * 31, "done"), ("-" + "9" * 32, "no"), ("1" * 5000, "no"), ("", "no"), ("x", "no"),
                             ("1.0", "no"), ("1_0", "no"), ("0x1", "no")):
            self.assertEqual(desk.say("add " + word), answer, word)
        self.assertEqual(desk.book.table, ((-int("9" * 31),), (-1,), (0,), (int("9" * 31),)))
        self.each(desk, ("remove -1", "done"), ("remove -1", "no"), ("remove -0", "no"), ("drop -1", "no"), ("make 0 up", "done"),
                  ("drop -0", "no"), ("drop 00", "no"), ("drop " + "9" * 31, "no"), ("drop " + "9" * 32, "no"), ("drop 0", "done"),
                  ("claim -1", "no"), ("covers equal -0 rows", "no"))

    def test_no_words_and_others(self):
        desk = Desk("2")
        for line in ("", " ", "\n", "rows ", " rows", "rows\n", "rows\nrows", "Rows", "ROWS", "row", "add", "add ", "add 1", "add 1 2 3",
                     "add 1  2", "add 1 2 ", "add 1\n2", "add\t1 2", "remove", "make", "make 0", "make 0 up 0 down", "make 2 up", "make up",
                     "drop", "drop 0", "drop 0 0", "covers", "covers row", "covers equal 2 rows", "covers rows rows", "covers rows\n",
                     "covers " + "turned " * 12 + "rows", "covers " + "turned " * 20 + "rows", "undo 1", "undo ", "undo\n", "deeds 0",
                     "indexes 1", "keys\n", "no", "done", "table", "len", "copy", "trial", "read 0", "make " + "0 up " * 9 + "0 up"):
            self.assertEqual(desk.say(line), "no", line)
        self.assertEqual(told_by(desk.book), ((), (), (), 0))

    def test_a_line_of_many_words(self):
        desk = Desk("8")
        self.assertEqual(desk.say("add" + " 1" * 9000), "no")
        self.assertEqual(desk.say("claim" + " 1" * 9000), "no")
        self.assertEqual(desk.say("add 1 2 3 4 5 6 7 -8"), "done")
        self.assertEqual(desk.say("claim 0 1 2 3 4 5 6 7"), "done")
        self.assertEqual(desk.say("make " + " ".join(f"{column} down" for column in range(8))), "done")
        self.assertEqual(desk.book.indexes, (tuple((column, "down") for column in range(8)),))


class TheBook(unittest.TestCase):
    def test_the_very_book(self):
        desk = Desk("2")
        book = desk.book
        self.assertIs(type(book), Book)
        self.assertIs(desk.book, book)
        self.assertTrue(book == Book(2))
        desk.say("add 1 2")
        self.assertEqual(book.table, ((1, 2),))
        book.add((0, 0))
        book.make(((1, "up"),))
        book.claim((0,))
        self.assertEqual([desk.say(line) for line in ("rows", "indexes", "keys", "deeds", "covers equal 1 rows", "add 1 5")],
                         ["2", "1", "1", "4", "0", "no"])
        book.undo(4)
        self.assertEqual((desk.say("undo"), desk.say("deeds")), ("nothing", "0"))
        self.assertIs(desk.book, book)

    def test_within_a_trial(self):
        desk = Desk("1")
        desk.say("add 1")
        with desk.book.trial():
            self.assertEqual([desk.say(line) for line in ("undo", "undo", "add 7", "deeds")], ["done", "nothing", "done", "1"])
        self.assertEqual(told_by(desk.book), (((1,),), (), (), 1))

    def test_two_desks(self):
        one, other = Desk("1"), Desk("1")
        one.say("add 1")
        self.assertEqual((one.say("rows"), other.say("rows")), ("1", "0"))
        self.assertFalse(one.book == other.book)

    def test_only_read(self):
        desk = Desk("1")
        self.assertIsInstance(vars(Desk)["book"], property)
        with self.assertRaises(AttributeError):
            desk.book = Book(1)


class Begun(unittest.TestCase):
    def test_texts(self):
        for columns in range(1, 9):
            self.assertTrue(Desk(str(columns)).book == Book(columns))
        for columns in (0, 9, 10, 10 ** 30, 10 ** 31 - 1):
            self.assertEqual(error_of(Desk, str(columns)), ("BadNumber", {"given": columns}))
        for text, line, word in (("", 0, 0), (" ", 0, 0), ("x", 0, 0), ("-1", 0, 0), ("02", 0, 0), ("+2", 0, 0), ("2 ", 0, 1),
                                 ("2 2", 0, 1), (" 2", 0, 0), ("2\n", 1, 0), ("2\nrows", 1, 0), ("0 ", 0, 1), ("9\n", 1, 0),
                                 ("1" * 32, 0, 0), ("1" * 5000, 0, 0), ("\n2", 0, 0), ("2 x\ny", 0, 1)):
            self.assertEqual(error_of(Desk, text), ("BadText", {"line": line, "word": word}), text)

    def test_bent_texts(self):
        for text in bent_texts("2"):
            made = read_lines([an_integer], text)
            if isinstance(made, list):
                made = None if 1 <= made[0] <= 8 else ("BadNumber", {"given": made[0]})
            self.assertEqual(error_of(Desk, text), made, text)

    def test_what_is_no_string(self):
        for text in (*[thing for thing in ODD_THINGS if type(thing) is not str], 2, b"2", ["2"], Oddity(), Thorny()):
            self.assertEqual(error_of(Desk, text), ("BadText", {"line": None, "word": None}))


class Covers(unittest.TestCase):
    def test_beside_doers(self):
        source = Random(2)
        for columns in (1, 2, 3):
            for term in some_terms(columns, 40, columns + 5):
                desk, indexes = Desk(str(columns)), []
                for _ in range(source.choice((0, 2, 12))):
                    indexes.append(source.choice(all_indexes(columns)))
                    self.assertEqual(desk.say("make " + index_text(columns, indexes[-1])), "done")
                told = desk.say("covers " + term_text(columns, term)).split(" ")
                self.assertEqual([None if word == "none" else int(word) for word in told],
                                 list(doers(columns, term, tuple(indexes))))


if __name__ == "__main__":
    unittest.main()
