"""fewindexes/judge.py: SHEETS and their SAYINGS (point 35)."""

import unittest
from random import Random

from fewindexes.judge import judged
from fewindexes.parts import is_hard
from fewindexes.texts import index_text, term_text
from cases import ODD_THINGS, Oddity, Thorny, all_indexes, error_of
from query_cases import does_by_fact, is_free, parts_by_words, some_terms, wrong_path
from text_cases import a_saying, a_term, an_integer, bent_texts, read_lines

RULES = [an_integer, lambda: a_term([]), a_saying]
TERM = "either either equal 0 rows grouped 1 1 sorted 1 0 up rows either rows equal 0 rows"
# its PARTS: 0 equal at column 0; 1 hard; 2 free; 3 as 0


def is_so(columns, parts, saying):
    word, number = saying[:2]
    if word == "parts":
        return number == len(parts)
    if number not in range(len(parts)):
        return False
    if word == "free":
        return is_free(parts[number])
    if word == "hard":
        return is_hard(columns, parts[number])
    if word == "does":
        names = [step[0] for step in saying[2]]
        right = max(names) < columns and len(set(names)) == len(names)
        return right and does_by_fact(saying[2], parts[number]) != []
    return saying[2] in range(len(parts)) and parts[number] == parts[saying[2]]


def due(text):
    """What is due of a SHEET: the error, or the tuple."""
    made = read_lines(RULES, text)
    if isinstance(made, tuple):
        return made
    columns, term, *sayings = made
    if not 1 <= columns <= 8:
        return ("BadNumber", {"given": columns})
    path = wrong_path(columns, term)
    if path is not None:
        return ("BadTerm", {"path": path})
    parts = parts_by_words(term)
    return tuple(is_so(columns, parts, saying) for saying in sayings)


class Judged(unittest.TestCase):
    def each(self, text):
        wanted = due(text)
        if wanted[:1] in (("BadText",), ("BadNumber",), ("BadTerm",)):
            self.assertEqual(error_of(judged, text), wanted, text)
        else:
            told = judged(text)
            self.assertEqual(told, wanted, text)
            self.assertEqual({type(one) for one in told} - {bool}, set())

    def so(self, saying, sheet="2\n" + TERM):
        told = judged(sheet + "\n" + saying)
        self.assertEqual(len(told), 1)
        return told[0]

    def test_parts(self):
        for number in range(10):
            self.assertIs(self.so(f"parts {number}"), number == 4)
        self.assertIs(self.so("parts " + "4" * 31), False)

    def test_hard_and_free(self):
        for number in range(9):
            self.assertIs(self.so(f"hard {number}"), number == 1)
            self.assertIs(self.so(f"free {number}"), number == 2)
        for word in ("hard", "free"):
            self.assertIs(self.so(f"{word} {'1' * 31}"), False)

    def test_does(self):
        for number, index, told in ((0, "0 up", True), (0, "0 down 1 up", True), (0, "1 up 0 up", False),
                                    (0, "1 down", False), (1, "0 up 1 up", False), (1, "1 up 0 up", False),
                                    (2, "1 up", True), (3, "0 up 1 down", True), (4, "0 up", False), (4, "1 up", False)):
            self.assertIs(self.so(f"does {number} {index}"), told, (number, index))
        # what is no INDEX is not so, also of a free PART
        for index in ("2 up", "0 up 0 down", "0 up 1 up 2 up", "0 up 1 up 0 up", " ".join(["0 up"] * 8), "1" * 31 + " up"):
            for number in range(5):
                self.assertIs(self.so(f"does {number} {index}"), False)

    def test_does_sorted(self):
        sheet = "3\nbetween 1 sorted 2 1 up 2 down equal 0 rows"
        for index, told in (("0 up 1 up 2 down", True), ("0 up 1 down 2 up", True), ("0 up 1 up 2 up", False),
                            ("0 down 1 up", False), ("1 up 2 down", False)):
            self.assertIs(self.so(f"does 0 {index}", sheet), told)

    def test_alike(self):
        for one in range(6):
            for other in range(6):
                self.assertIs(self.so(f"alike {one} {other}"), max(one, other) < 4 and (one == other or {one, other} == {0, 3}))

    def test_several(self):
        self.assertEqual(judged("2\n" + TERM + "\nparts 4\nparts 4\nhard 0\nfree 2\nalike 3 0\nparts 3"),
                         (True, True, False, True, True, False))
        self.assertEqual(judged("2\n" + TERM), ())
        self.assertEqual(judged("8\nrows"), ())
        self.assertEqual(judged("1\nrows\nfree 0\nhard 0\nparts 1"), (True, False, True))

    def test_drawn_sheets(self):
        source = Random(3)
        for columns in (1, 2, 3):
            for term in some_terms(columns, 60, columns + 11):
                lines = [str(columns), term_text(columns, term)]
                for _ in range(source.randint(0, 9)):
                    word = source.choice(("parts", "hard", "free", "does", "alike"))
                    tail = {"does": " " + index_text(4, source.choice(all_indexes(columns + source.choice((0, 0, 1))))),
                            "alike": f" {source.randint(0, 4)}"}.get(word, "")
                    lines.append(f"{word} {source.randint(0, 4)}{tail}")
                self.each("\n".join(lines))

    def test_bent_sheets(self):
        for text in ("1\nrows", "2\nequal 1 rows\nparts 1", "2\neither rows sorted 1 0 up rows\ndoes 1 0 up 1 down",
                     "3\neither rows rows\nalike 0 1\nhard 0\nfree 1"):
            for bent in bent_texts(text, ("parts", "hard", "free", "does", "alike", "2", "3")):
                self.each(bent)


class Texts(unittest.TestCase):
    def bad(self, text, line, word):
        self.assertEqual(error_of(judged, text), ("BadText", {"line": line, "word": word}), text)

    def test_what_is_no_string(self):
        for text in (*[thing for thing in ODD_THINGS if type(thing) is not str], b"2\nrows", ["2", "rows"], Oddity(), Thorny()):
            self.bad(text, None, None)

    def test_lines(self):
        for text, line, word in (("", 0, 0), ("2", 1, 0), ("2\n", 1, 0), ("2 ", 0, 1), ("2 rows", 0, 1), ("2\nrows\n", 2, 0),
                                 ("2\n\nrows", 1, 0), ("\n2\nrows", 0, 0), ("2\nrows\n\nparts 1", 2, 0),
                                 ("2\nrows rows", 1, 1), ("x\nrows", 0, 0), ("-2\nrows", 0, 0), ("02\nrows", 0, 0),
                                 ("2\nrows\nparts", 2, 1), ("2\nrows\nparts 1 1", 2, 2), ("2\nrows\nparts -1", 2, 1),
                                 ("2\nrows\nparts 1\nPARTS 1", 3, 0), ("2\nrows\nhard", 2, 1), ("2\nrows\nhard 0 0", 2, 2),
                                 ("2\nrows\nfree", 2, 1), ("2\nrows\nfree 0 1", 2, 2), ("2\nrows\ndoes 0", 2, 2),
                                 ("2\nrows\ndoes", 2, 1), ("2\nrows\ndoes 0 0", 2, 3), ("2\nrows\ndoes 0 up", 2, 2),
                                 ("2\nrows\ndoes 0 0 up 1", 2, 5), ("2\nrows\ndoes 0" + " 0 up" * 9, 2, 18),
                                 ("2\nrows\nalike 0", 2, 2), ("2\nrows\nalike", 2, 1), ("2\nrows\nalike 0 0 0", 2, 3),
                                 ("2\nrows\nparts " + "1" * 32, 2, 1), ("1" * 32 + "\nrows", 0, 0),
                                 ("2\nparts 1", 1, 0), ("2\nrows\nrows", 2, 0)):
            self.bad(text, line, word)

    def test_which_comes_first(self):
        for columns in (0, 9, 10, 10 ** 30, 10 ** 31 - 1):
            self.assertEqual(error_of(judged, f"{columns}\nrows"), ("BadNumber", {"given": columns}))
            self.assertEqual(error_of(judged, f"{columns}\nequal 77 rows\nparts 1"), ("BadNumber", {"given": columns}))
            self.bad(f"{columns}\nrows\nparts", 2, 1)
            self.bad(f"{columns}\nequal", 1, 1)
            self.bad(f"{columns}", 1, 0)
        self.assertEqual(error_of(judged, "2\nequal 2 rows"), ("BadTerm", {"path": ()}))
        self.assertEqual(error_of(judged, "2\nturned equal 2 rows\nparts 1"), ("BadTerm", {"path": (1,)}))
        self.assertEqual(error_of(judged, "2\n" + "turned " * 12 + "rows\nhard 0"), ("BadTerm", {"path": ()}))
        self.bad("2\nequal 2 rows\nparts", 2, 1)
        self.bad("2\n" + "turned " * 20 + "rows\nhard 0", 1, 20)


if __name__ == "__main__":
    unittest.main()
