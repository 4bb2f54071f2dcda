"""fewindexes/texts.py: the texts of TERMS and INDEXES (point 34)."""

import unittest

from fewindexes.terms import need_term
from fewindexes.texts import index_text, read_index, read_term, term_text
from cases import ODD_THINGS, THORNS, Oddity, Thorny, all_indexes, changed, error_of
from query_cases import some_terms, wrong_path
from text_cases import a_term, an_index, bent_texts, read_lines

ROWS = ("rows",)
STEPS = ((2, "up"), (0, "down"))


def due_term(columns, text):
    """What reading a text has to tell: the error, or the TERM itself."""
    made = read_lines([lambda: a_term([])], text)
    if isinstance(made, tuple):
        return made
    path = wrong_path(columns, made[0])
    return made[0] if path is None else ("BadTerm", {"path": path})


def due_index(columns, text):
    made = read_lines([an_index], text)
    if isinstance(made, tuple):
        return made
    names = [step[0] for step in made[0]]
    right = max(names) < columns and len(set(names)) == len(names)
    return made[0] if right else ("BadIndex", {"given": made[0]})


class Words(unittest.TestCase):
    def each(self, term, text, columns=3):
        self.assertEqual(term_text(columns, term), text)
        self.assertEqual(read_term(columns, text), term)

    def test_each_word(self):
        self.each(ROWS, "rows")
        self.each(("equal", ROWS, 0), "equal 0 rows")
        self.each(("equal", ("equal", ROWS, 2), 1), "equal 1 equal 2 rows")
        self.each(("between", ("equal", ROWS, 2), 1), "between 1 equal 2 rows")
        self.each(("grouped", ROWS, ()), "grouped 0 rows")
        self.each(("grouped", ROWS, (2,)), "grouped 1 2 rows")
        self.each(("grouped", ("turned", ROWS), (0, 1, 2)), "grouped 3 0 1 2 turned rows")
        self.each(("sorted", ROWS, ()), "sorted 0 rows")
        self.each(("sorted", ROWS, STEPS), "sorted 2 2 up 0 down rows")
        self.each(("turned", ("sorted", ROWS, STEPS[:1])), "turned sorted 1 2 up rows")
        self.each(("either", ROWS, ("equal", ROWS, 1)), "either rows equal 1 rows")
        self.each(("either", ("either", ("turned", ROWS), ROWS), ROWS), "either either turned rows rows rows")
        self.each(("either", ROWS, ("either", ("turned", ROWS), ROWS)), "either rows either turned rows rows")
        self.each(("equal", ("either", ("equal", ROWS, 0), ("equal", ROWS, 1)), 2), "equal 2 either equal 0 rows equal 1 rows")
        self.each(("sorted", ROWS, tuple((at, "up") for at in range(8))),
                  "sorted 8 0 up 1 up 2 up 3 up 4 up 5 up 6 up 7 up rows", 8)

    def test_indexes(self):
        for index, text in ((((0, "up"),), "0 up"), (((1, "down"), (0, "up")), "1 down 0 up"),
                            (tuple((at, "down") for at in range(7, -1, -1)),
                             "7 down 6 down 5 down 4 down 3 down 2 down 1 down 0 down")):
            self.assertEqual(index_text(8, index), text)
            self.assertEqual(read_index(8, text), index)

    def test_again(self):
        for columns in (1, 2, 3, 8):
            for term in some_terms(columns, 200, columns + 20):
                text = term_text(columns, term)
                self.assertEqual(read_term(columns, text), term)
                self.assertEqual(due_term(columns, text), term)
                self.assertNotIn("\n", text)
        for columns in (1, 2, 3):
            for index in all_indexes(columns):
                text = index_text(columns, index)
                self.assertEqual(read_index(columns, text), index)
                self.assertEqual(text, " ".join(f"{column} {way}" for column, way in index))


class Reading(unittest.TestCase):
    def term(self, columns, text):
        due = due_term(columns, text)
        if due[0] in ("BadText", "BadTerm"):
            self.assertEqual(error_of(read_term, columns, text), due, text)
        else:
            self.assertEqual(read_term(columns, text), due, text)
            self.assertEqual(term_text(columns, due), text)

    def test_bent_terms(self):
        terms = [term for term in some_terms(3, 60, 31) if len(repr(term)) < 220][:14]
        terms += [("sorted", ("grouped", ROWS, (0, 1)), STEPS), ("either", ("between", ROWS, 1), ("equal", ROWS, 2))]
        for term in terms:
            for text in bent_texts(term_text(3, term), ("3", "sorted", "grouped")):
                self.term(3, text)

    def test_bent_indexes(self):
        long = tuple((at, "up") for at in range(8))
        for columns, index in ((1, ((0, "up"),)), (3, ((1, "down"), (0, "up"))), (8, long[:7]), (8, long), (7, long[:7])):
            for text in bent_texts(index_text(columns, index), ("0 up", "7 down", "8 up")):
                due = due_index(columns, text)
                told = error_of(read_index, columns, text)
                self.assertEqual(told, due if due[0] in ("BadText", "BadIndex") else None, text)
                if told is None:
                    self.assertEqual(read_index(columns, text), due)
                    self.assertEqual(index_text(columns, due), text)

    def test_what_is_no_string(self):
        for call in (read_term, read_index):
            for text in (*[thing for thing in ODD_THINGS if type(thing) is not str], 7.5, Oddity(), Thorny(), ["rows"],
                         b"rows", ("rows",)):
                self.assertEqual(error_of(call, 2, text), ("BadText", {"line": None, "word": None}))

    def bad(self, call, text, line, word):
        self.assertEqual(error_of(call, 8, text), ("BadText", {"line": line, "word": word}), text)

    def test_places_by_hand(self):
        for text, line, word in (("", 0, 0), (" ", 0, 0), ("\n", 0, 0), ("row", 0, 0), ("rows ", 0, 1), (" rows", 0, 0),
                                 ("rows\n", 1, 0), ("rows\nrows", 1, 0), ("rows\n\n", 1, 0), ("rows rows\n", 0, 1),
                                 ("equal", 0, 1), ("equal 0", 0, 2), ("equal  0 rows", 0, 1), ("equal 0  rows", 0, 2),
                                 ("equal -0 rows", 0, 1), ("equal 00 rows", 0, 1), ("equal x rows", 0, 1),
                                 ("equal rows 0", 0, 1), ("equal 0 rows 0", 0, 3), ("equal 0\nrows", 0, 2),
                                 ("grouped", 0, 1), ("grouped 9 rows", 0, 1), ("grouped 2 0 rows", 0, 3),
                                 ("grouped 0 0 rows", 0, 2), ("sorted 1 0 rows", 0, 3), ("sorted 1 up 0 rows", 0, 2),
                                 ("sorted 08 rows", 0, 1), ("sorted 0", 0, 2), ("sorted 2 0 up rows", 0, 4),
                                 ("either rows", 0, 2), ("either rows rows rows", 0, 3), ("turned", 0, 1),
                                 ("either rows turned", 0, 3), ("rows\rrows", 0, 0), ("rows\r", 0, 0)):
            self.bad(read_term, text, line, word)
        for text, line, word in (("", 0, 0), ("0", 0, 1), ("0 Up", 0, 1), ("0  up", 0, 1), ("0 up ", 0, 2),
                                 ("0 up 1", 0, 3), ("up 0", 0, 0), ("0 up\n", 1, 0), ("\n0 up", 0, 0), ("0 up 1 x", 0, 3),
                                 (" ".join(["0 up"] * 9), 0, 16), (" ".join(["0 up"] * 8) + " ", 0, 16),
                                 (" ".join(["0 up"] * 8) + "\n0 up", 1, 0), ("0 up\n1 up", 1, 0)):
            self.bad(read_index, text, line, word)

    def test_figures(self):
        for many in (1, 2, 30, 31):
            big = "1" * many
            self.assertEqual(error_of(read_term, 8, f"equal {big} rows"),
                             ("BadTerm", {"path": ()}) if many > 1 else None)
            self.assertEqual(error_of(read_term, 8, f"turned grouped 1 {big} rows"),
                             ("BadTerm", {"path": (1,)}) if many > 1 else None)
            self.assertEqual(error_of(read_index, 8, f"{big} up"),
                             ("BadIndex", {"given": ((int(big), "up"),)}) if many > 1 else None)
        for many in (32, 60, 4300, 4301, 5000):
            self.bad(read_term, f"equal {'1' * many} rows", 0, 1)
            self.bad(read_term, f"sorted {'8' * many} rows", 0, 1)
            self.bad(read_term, f"sorted 1 {'1' * many} up rows", 0, 2)
            self.bad(read_index, f"0 up {'1' * many} up", 0, 2)

    def test_how_many(self):
        self.assertEqual(error_of(read_term, 8, "grouped 3 0 1 7 rows"), None)
        # four columns, a column twice, a turn that does not ascend have the form
        for text in ("grouped 4 0 1 2 3 rows", "grouped 8 0 1 2 3 4 5 6 7 rows", "grouped 2 1 0 rows", "grouped 2 1 1 rows",
                     "sorted 2 1 up 1 up rows", "sorted 8" + " 0 up" * 8 + " rows", "equal 8 rows", "between 8 rows"):
            self.assertEqual(error_of(read_term, 8, text), ("BadTerm", {"path": ()}), text)
            self.assertEqual(error_of(read_term, 8, "either rows " + text), ("BadTerm", {"path": (2,)}), text)
        self.bad(read_term, "grouped 9 0 1 2 3 4 5 6 7 8 rows", 0, 1)
        self.bad(read_term, "sorted 9" + " 0 up" * 9 + " rows", 0, 1)

    def test_twenty_words(self):
        def tall(many):
            return "turned " * (many - 1) + "rows"
        self.assertIsNone(error_of(read_term, 8, tall(12)))
        for many in (13, 19, 20):
            self.assertEqual(error_of(read_term, 8, tall(many)), ("BadTerm", {"path": ()}))
        for many in (21, 22, 5000):
            self.bad(read_term, tall(many), 0, 20)
        self.assertIsNone(error_of(read_term, 8, f"either {tall(9)} {tall(10)}"))
        self.bad(read_term, f"either {tall(10)} {tall(10)}", 0, 20)
        # what stands beside the words is none of the twenty
        nine = "equal 0 " * 8 + "rows"
        self.assertIsNone(error_of(read_term, 8, f"either {nine} {tall(10)}"))
        self.bad(read_term, f"either turned {nine} {tall(10)}", 0, 1 + 1 + 17 + 9)
        self.bad(read_term, "either " * 21, 0, 20)
        self.bad(read_term, " ".join(["either"] * 20), 0, 20)
        self.bad(read_term, " ".join(["either"] * 19), 0, 19)

    def test_eight_parts(self):
        eight = "either " * 7 + " ".join(["rows"] * 8)
        self.assertIsNone(error_of(read_term, 8, eight))
        self.assertEqual(error_of(read_term, 8, "either rows " + eight), ("BadTerm", {"path": ()}))

    def test_of_other_columns(self):
        for columns in range(1, 9):
            for column in range(10):
                self.assertEqual(error_of(read_term, columns, f"turned equal {column} rows"),
                                 None if column < columns else ("BadTerm", {"path": (1,)}))
                self.assertEqual(error_of(read_index, columns, f"{column} up"),
                                 None if column < columns else ("BadIndex", {"given": ((column, "up"),)}))
        self.assertEqual(error_of(read_index, 2, "0 up 1 up 0 down"),
                         ("BadIndex", {"given": ((0, "up"), (1, "up"), (0, "down"))}))


class Refused(unittest.TestCase):
    def test_columns_first(self):
        for call in (term_text, index_text, read_term, read_index):
            for columns in (0, 9, True, None, [2], Oddity(), Thorny()):
                for other in (None, "", "rows"):
                    kind, fields = error_of(call, columns, other)
                    self.assertEqual(kind, "BadNumber")
                    self.assertIs(fields["given"], columns)

    def test_terms_and_indexes(self):
        for wrong in changed(("either", ("turned", ROWS), ("sorted", ROWS, STEPS)), THORNS):
            path = wrong_path(3, wrong)
            self.assertEqual(error_of(term_text, 3, wrong), None if path is None else ("BadTerm", {"path": path}))
        for wrong in changed(STEPS, THORNS):
            told = error_of(index_text, 3, wrong)
            if told is None:
                self.assertEqual(all_indexes(3).count(wrong), 1)
            else:
                self.assertEqual(told[0], "BadIndex")
                self.assertIs(told[1]["given"], wrong)

    def test_itself(self):
        # what is read is a TERM as any other one
        term = read_term(3, "either sorted 2 2 up 0 down rows equal 1 rows")
        self.assertIs(need_term(3, term), term)


if __name__ == "__main__":
    unittest.main()
