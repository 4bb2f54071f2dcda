"""fewindexes/shelves.py: Shelves of TERMS under NAMES (point 33)."""

import unittest
from random import Random

from fewindexes.parts import does_do
from fewindexes.shelves import Shelf
from fewindexes.terms import choices_of, parts_of
from cases import ODD_THINGS, THORNS, Oddity, Thorny, all_indexes, changed, error_of
from query_cases import is_free, some_terms, wrong_path

ROWS = ("rows",)
ONE, TWO = ("equal", ROWS, 0), ("between", ROWS, 1)
NAMES = ["".join(sign * many) for many in (1, 2) for sign in "abcdefghijklm"]
BAD_NAMES = (None, 0, True, "", "A", "aB", "a1", "a_b", "a b", "abcdefghi", " a", "a\n", b"a", ("a",), ["a"], {}, (),
             "-", "{", "`", Oddity(), Thorny(), (Thorny(),))


def names_of(count):
    return ["abcdefghijklmnopqrstuvwxyz"[at] for at in range(count)]


def shelf_of(columns, terms):
    shelf = Shelf(columns)
    for name, term in terms.items():
        shelf.put(name, term)
    return shelf


class Drawn(unittest.TestCase):
    def told(self, shelf, plain, columns):
        """What the Shelf tells beside a plain dict."""
        self.assertEqual(shelf.names(), tuple(sorted(plain)))
        self.assertEqual(len(shelf), len(plain))
        parts = {name: parts_of(columns, term) for name, term in plain.items()}
        self.assertEqual(shelf.alike(), tuple(sorted((one, other) for one in plain for other in plain
                                                     if one < other and parts[one] == parts[other])))
        self.assertEqual(shelf.choices(), sum((choices_of(columns, plain[name]) for name in sorted(plain)), ()))
        for name in ("a", "bb", "zz", None, 3, [], Oddity()):
            self.assertIs(name in shelf, type(name) is str and name in plain)

    def step(self, source, shelf, plain, terms, columns):
        name = source.choice(NAMES + ["Zz", ""])
        deed = source.choice(("put", "put", "put", "take", "seek"))
        if deed == "put":
            term = source.choice(terms + [("equal", ROWS, columns), ("turned", ("row",))])
            due = None
            if name in ("Zz", ""):
                due = ("BadName", {"given": name})
            elif wrong_path(columns, term) is not None:
                due = ("BadTerm", {"path": wrong_path(columns, term)})
            elif name not in plain and len(plain) == 20:
                due = ("TooMany", {"most": 20})
            else:
                plain[name] = term
            self.assertEqual(error_of(shelf.put, name, term), due)
        elif name not in plain:
            self.assertEqual(error_of(getattr(shelf, deed), name), ("Missing", {"given": name}))
        else:
            self.assertEqual(getattr(shelf, deed)(name), plain[name])
            if deed == "take":
                del plain[name]

    def test_drawn_deeds(self):
        for columns in (1, 2, 3):
            # few TERMS, so that PARTS are alike more often
            terms = some_terms(columns, 12, columns + 70) + [ROWS, ("turned", ROWS), ONE, ("equal", ONE, 0)]
            for seed in range(4):
                source, shelf, plain = Random(seed), Shelf(columns), {}
                for _ in range(160):
                    self.step(source, shelf, plain, terms, columns)
                    self.told(shelf, plain, columns)
                    other = shelf_of(columns, dict(sorted(plain.items(), reverse=True)))
                    self.assertTrue(shelf == other)

    def test_done_by(self):
        for columns in (1, 2, 3):
            terms = some_terms(columns, 20, columns + 90)
            shelf = shelf_of(columns, dict(zip(names_of(20), terms)))
            for index in all_indexes(columns):
                due = tuple(name for name, term in zip(names_of(20), terms)
                            if all(is_free(part) or does_do(columns, index, part) for part in parts_of(columns, term)))
                self.assertEqual(shelf.done_by(index), due)


class ByHand(unittest.TestCase):
    def test_columns(self):
        for thing in (0, 9, -1, True, None, "2", (2,), [2], Oddity(), Thorny()):
            kind, fields = error_of(Shelf, thing)
            self.assertEqual(kind, "BadNumber")
            self.assertIs(fields["given"], thing)

    def test_at_first(self):
        shelf = Shelf(8)
        self.assertEqual((shelf.names(), shelf.alike(), shelf.choices(), len(shelf)), ((), (), (), 0))
        self.assertEqual(shelf.done_by(((7, "up"),)), ())
        self.assertIs("a" in shelf, False)

    def test_what_is_returned(self):
        shelf = Shelf(2)
        self.assertIsNone(shelf.put("a", ONE))
        self.assertIsNone(shelf.put("a", TWO))
        self.assertEqual(shelf.seek("a"), TWO)
        self.assertEqual(shelf.take("a"), TWO)
        self.assertEqual(error_of(shelf.take, "a"), ("Missing", {"given": "a"}))

    def test_names(self):
        shelf = Shelf(2)
        for name in ("z", "a", "abcdefgh", "zzzzzzzz", "ab"):
            shelf.put(name, ROWS)
        self.assertEqual(shelf.names(), ("a", "ab", "abcdefgh", "z", "zzzzzzzz"))
        for name in BAD_NAMES:
            kind, fields = error_of(shelf.put, name, ROWS)
            self.assertEqual(kind, "BadName")
            self.assertIs(fields["given"], name)
            self.assertEqual(error_of(shelf.put, name, None)[0], "BadName")
        self.assertEqual(len(shelf), 5)

    def test_missing_of_anything(self):
        shelf = shelf_of(2, {"a": ONE})
        for name in (*BAD_NAMES, *ODD_THINGS, "b", "aa", Shelf(2), Oddity(), Thorny()):
            for call in (shelf.take, shelf.seek):
                kind, fields = error_of(call, name)
                self.assertEqual(kind, "Missing")
                self.assertIs(fields["given"], name)
            self.assertIs(name in shelf, False)
            self.assertIs(name not in shelf, True)
        self.assertEqual(shelf.names(), ("a",))

    def test_twenty_names(self):
        shelf = shelf_of(2, {name: ROWS for name in names_of(20)})
        self.assertEqual(error_of(shelf.put, "zz", ROWS), ("TooMany", {"most": 20}))
        self.assertEqual(error_of(shelf.put, "zz", ("rows", 0)), ("BadTerm", {"path": ()}))
        self.assertEqual(error_of(shelf.put, "ZZ", ("rows", 0)), ("BadName", {"given": "ZZ"}))
        self.assertIsNone(error_of(shelf.put, "a", ONE))
        self.assertEqual((shelf.seek("a"), len(shelf)), (ONE, 20))
        shelf.take("c")
        self.assertIsNone(error_of(shelf.put, "zz", TWO))
        self.assertEqual(len(shelf), 20)
        self.assertEqual(shelf.names()[-1], "zz")

    def test_terms(self):
        shelf = shelf_of(3, {"a": ONE})
        for wrong in changed(("either", ONE, ("sorted", ROWS, ((0, "up"),))), THORNS):
            path = wrong_path(3, wrong)
            for name in ("a", "b"):
                told = error_of(shelf.put, name, wrong) if path is not None else None
                self.assertEqual(told, None if path is None else ("BadTerm", {"path": path}), wrong)
        self.assertEqual((shelf.names(), shelf.seek("a")), (("a",), ONE))

    def test_alike(self):
        turned = ("turned", ("turned", TWO))
        shelf = shelf_of(2, {"d": TWO, "a": turned, "b": ONE, "c": ("equal", ONE, 0), "e": ("between", ROWS, 1),
                             "f": ("either", ONE, TWO), "g": ("either", TWO, ONE)})
        self.assertEqual(shelf.alike(), (("a", "d"), ("a", "e"), ("b", "c"), ("d", "e")))

    def test_done_by(self):
        hard = ("grouped", ("sorted", ROWS, ((0, "up"),)), (1,))
        both = ("either", ONE, ("either", ROWS, ("equal", ONE, 1)))
        shelf = shelf_of(2, {"a": ROWS, "b": ("either", ROWS, ROWS), "c": ONE, "d": hard, "e": both,
                             "f": ("either", ONE, ("equal", ROWS, 1))})
        self.assertEqual(shelf.done_by(((0, "up"),)), ("a", "b", "c"))
        self.assertEqual(shelf.done_by(((0, "down"), (1, "up"))), ("a", "b", "c", "e"))
        self.assertEqual(shelf.done_by(((1, "up"),)), ("a", "b"))
        for wrong in changed(((0, "up"), (1, "up")), THORNS):
            told = error_of(shelf.done_by, wrong)
            if told is not None:
                self.assertEqual(told[0], "BadIndex")
                self.assertIs(told[1]["given"], wrong)
            else:
                self.assertEqual(all_indexes(2).count(wrong), 1)

    def test_choices(self):
        hard = ("grouped", ("sorted", ROWS, ((0, "up"),)), (1,))
        shelf = shelf_of(2, {"c": ("either", ONE, hard), "a": ("either", TWO, ROWS), "b": ROWS})
        self.assertEqual(shelf.choices(), ((((), ((1, "up"),)),), (((0,), ()),), ()))


class Equal(unittest.TestCase):
    def test_equal(self):
        one, other = shelf_of(2, {"a": ONE, "b": TWO}), shelf_of(2, {"b": TWO, "c": ROWS, "a": ROWS})
        self.assertTrue(one != other and not one == other)
        other.take("c")
        self.assertFalse(one == other)
        other.put("a", ONE)
        self.assertTrue(one == other and other == one and not one != other)
        other.put("b", ("turned", ("turned", TWO)))
        self.assertFalse(one == other)

    def test_other_columns(self):
        for columns in range(1, 9):
            for other in range(1, 9):
                self.assertIs(Shelf(columns) == Shelf(other), columns == other)
        self.assertFalse(shelf_of(2, {"a": ONE}) == shelf_of(3, {"a": ONE}))

    def test_what_is_no_shelf(self):
        shelf = shelf_of(2, {"a": ONE})
        for thing in (*ODD_THINGS, {"a": ONE}, Shelf, Oddity(), Thorny()):
            self.assertIs(shelf == thing, False)
            self.assertIs(shelf != thing, True)


class Given(unittest.TestCase):
    def test_what_is_told_cannot_be_changed(self):
        shelf = shelf_of(2, {"a": ONE, "b": ONE})
        for told in (shelf.names(), shelf.alike(), shelf.choices(), shelf.done_by(((0, "up"),)), shelf.seek("a")):
            self.assertIs(type(told), tuple)
            hash(told)

    def test_equal_calls(self):
        shelf = shelf_of(2, {"a": ONE, "b": ONE})
        for call in (shelf.names, shelf.alike, shelf.choices):
            self.assertEqual(call(), call())


if __name__ == "__main__":
    unittest.main()
