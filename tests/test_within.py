"""fewindexes/within.py: WITHIN and the PAPERS on it (point 6)."""

import unittest

from fewindexes.within import check_within, is_within, within_paper
from cases import Oddity, Thorny, all_lookups, changed, error_of, served_table

SERVED = {columns: served_table(columns) for columns in (1, 2, 3)}


def due(columns, one, other, paper):
    """By the definition: the part that is due of a PAPER, or None of one that holds."""
    served = SERVED[columns]
    forms = {"within": 1, "not": 2}
    if type(paper) is not tuple or not paper or type(paper[0]) is not str or forms.get(paper[0]) != len(paper):
        return "form"
    if paper[0] == "within":
        return None if served[other] <= served[one] else "within"
    told = [index for index in served[other] - served[one] if repr(index) == repr(paper[1])]
    return None if told else "not"


class Within(unittest.TestCase):
    def test_beside_all_indexes(self):
        for columns, served in SERVED.items():
            for one in served:
                for other in served:
                    within = served[other] <= served[one]
                    self.assertIs(is_within(columns, one, other), within, (one, other))
                    paper = within_paper(columns, one, other)
                    self.assertEqual(paper[0], "within" if within else "not", (one, other))
                    self.assertEqual(check_within(columns, one, other, paper), paper[0])
                    if not within:
                        self.assertEqual(len(paper), 2)
                        self.assertIn(paper[1], served[other] - served[one])

    def test_by_hand(self):
        up, down = ((), ((0, "up"),)), ((), ((0, "down"),))
        for one, other, within in (
            (up, up, True), (up, down, True), (((0,), ()), up, True), (up, ((0,), ()), True),
            (((0,), ((1, "up"),)), ((0,), ((1, "down"),)), True),
            (((), ((0, "up"), (1, "up"))), ((), ((0, "down"), (1, "down"))), True),
            (((), ((0, "up"), (1, "up"))), ((), ((0, "up"), (1, "down"))), False),
            (((), ((0, "up"), (1, "up"))), ((0,), ((1, "up"),)), False),
            (((0,), ((1, "up"),)), ((), ((0, "up"), (1, "down"))), True),
            (((0,), ()), ((0, 1), ()), False), (((0, 1), ()), ((0,), ()), False),
            (((0, 1, 2), ()), ((0,), ((1, "up"), (2, "up"))), True),
        ):
            self.assertIs(is_within(3, one, other), within, (one, other))

    def test_eight_columns(self):
        whole = ((), tuple((column, "up") for column in range(8)))
        for many in range(1, 9):
            self.assertTrue(is_within(8, (tuple(range(many)), ()), whole))
            self.assertEqual(within_paper(8, whole, (tuple(range(many)), ()))[0], "not")
        one, other = (tuple(range(7)), ()), (tuple(range(8)), ())
        paper = within_paper(8, one, other)
        self.assertEqual(paper[1][0][0] if len(paper[1]) == 8 else None, 7)
        self.assertEqual(check_within(8, one, other, paper), "not")

    def test_changed_papers(self):
        lookups = all_lookups(2)
        for one in lookups:
            for other in lookups:
                paper = within_paper(2, one, other)
                for wrong in changed(paper):
                    part = due(2, one, other, wrong)
                    told = error_of(check_within, 2, one, other, wrong)
                    self.assertEqual(told, None if part is None else ("BadPaper", {"part": part}), wrong)

    def test_all_indexes_as_papers(self):
        served = SERVED[2]
        every = set().union(*served.values())
        for one in served:
            for other in served:
                for index in every:
                    told = error_of(check_within, 2, one, other, ("not", index))
                    right = index in served[other] - served[one]
                    self.assertEqual(told, None if right else ("BadPaper", {"part": "not"}))
                right = served[other] <= served[one]
                told = error_of(check_within, 2, one, other, ("within",))
                self.assertEqual(told, None if right else ("BadPaper", {"part": "within"}))

    def test_papers_of_no_form(self):
        one, other = ((0,), ()), ((0, 1), ())
        for paper in (None, 0, True, "within", "not", (), [], ["within"], {}, Oddity(), Thorny(), (Oddity(),),
                      (Thorny(), 1), ("within", 1), ("not",), ("not", ((1, "up"), (0, "up")), 1), (("within",),),
                      ("Within",), ("forward",), (b"within",), (None,), ([],)):
            self.assertEqual(error_of(check_within, 3, one, other, paper), ("BadPaper", {"part": "form"}))

    def test_papers_that_are_not_as_told(self):
        one, other = ((0,), ()), ((0, 1), ())
        self.assertEqual(check_within(3, one, other, ("not", ((1, "up"), (0, "up")))), "not")
        self.assertEqual(check_within(3, one, other, ("not", ((1, "down"), (0, "up"), (2, "up")))), "not")
        self.assertEqual(error_of(check_within, 3, one, other, ("within",)), ("BadPaper", {"part": "within"}))
        for thing in (None, 0, "x", [], {}, (), Oddity(), Thorny(), [(1, "up"), (0, "up")], ((1, "up"), (3, "up")),
                      ((0, "up"), (1, "up")), ((1, "up"),), ((True, "up"), (0, "up")), ((1, "up"), (0, "up"), (0, "up"))):
            self.assertEqual(error_of(check_within, 3, one, other, ("not", thing)), ("BadPaper", {"part": "not"}))

    def test_errors_in_turn(self):
        good = ((0,), ())
        for columns in (0, 9, True, None, Oddity()):
            for call, rest in ((is_within, ()), (within_paper, ()), (check_within, (None,))):
                kind, fields = error_of(call, columns, None, None, *rest)
                self.assertEqual(kind, "BadNumber")
                self.assertIs(fields["given"], columns)
        for call, rest in ((is_within, ()), (within_paper, ()), (check_within, (None,))):
            self.assertEqual(error_of(call, 1, "one", "other", *rest), ("BadLookup", {"given": "one"}))
            self.assertEqual(error_of(call, 1, good, "other", *rest), ("BadLookup", {"given": "other"}))
            self.assertEqual(error_of(call, 1, "one", good, *rest), ("BadLookup", {"given": "one"}))
        self.assertEqual(error_of(check_within, 1, good, good, None), ("BadPaper", {"part": "form"}))


if __name__ == "__main__":
    unittest.main()
