"""Point 1, of every function: nothing is changed, equal calls tell equal things, arguments by position or by name."""

import copy
import importlib
import unittest

from fewindexes.books import Book
from fewindexes.desk import Desk
from fewindexes.shelves import Shelf
from fewindexes.terms import choices_of
from cases import Oddity, Thorny, error_of

STEP_UP, STEP_DOWN = (0, "up"), (1, "down")
INDEX = (STEP_UP, STEP_DOWN, (2, "up"))
LOOKUP = ((0,), (STEP_DOWN,))
OTHER = ((), (STEP_UP, (1, "up")))
DEMAND = (3, tuple(sorted([LOOKUP, OTHER, ((0, 2), ()), ((1,), ((0, "up"), (2, "up")))])))

PAIR = (2, (((0,), ()), ((1,), ())))
TABLE = ((0, 1, 2), (0, 1, 2), (0, 2, 0), (1, 0, 0))
STOCK = (((0, "up"),), ((1, "up"), (2, "down")))
TELLS = (((), (2,)), ((0,), (1,)))
NEEDS = ((((0,), ()), ((0, 1), ())), (((1,), ()), ((2,), ())))
PART = ((0,), 1, (1,), ((1, "down"), (2, "up")))
TERM = ("either", ("sorted", ("equal", ("rows",), 0), ((1, "up"),)), ("grouped", ("rows",), (0, 1)))

# Of each function its file, its name, and right arguments by the names that the interface tells.
CALLS = [
    ("demands", "need_demand", {"thing": DEMAND}),
    ("demands", "need_lookup", {"columns": 3, "thing": LOOKUP}),
    ("demands", "sets_of", {"columns": 3, "lookup": LOOKUP}),
    ("demands", "bare_lookups", {"demand": DEMAND}),
    ("indexes", "need_index", {"columns": 3, "thing": INDEX}),
    ("indexes", "beginnings", {"columns": 3, "index": INDEX}),
    ("indexes", "way_of", {"columns": 3, "index": INDEX, "lookup": LOOKUP}),
    ("indexes", "does_serve", {"columns": 3, "index": INDEX, "lookup": LOOKUP}),
    ("indexes", "served_by", {"demand": DEMAND, "index": INDEX}),
    ("within", "is_within", {"columns": 3, "one": OTHER, "other": LOOKUP}),
    ("within", "within_paper", {"columns": 3, "one": OTHER, "other": LOOKUP}),
    ("within", "check_within", {"columns": 3, "one": OTHER, "other": LOOKUP, "paper": ("not", INDEX)}),
    ("tables", "need_table", {"columns": 3, "thing": TABLE}),
    ("tables", "listing", {"columns": 3, "table": TABLE, "index": INDEX}),
    ("tables", "does_keep", {"columns": 3, "table": TABLE, "index": INDEX, "lookup": LOOKUP, "way": "forward"}),
    ("tables", "rows_for", {"columns": 3, "table": TABLE, "lookup": LOOKUP, "values": (0,)}),
    ("tables", "serve_paper", {"columns": 3, "index": INDEX, "lookup": OTHER}),
    ("tables", "check_serve", {"columns": 3, "index": INDEX, "lookup": LOOKUP, "paper": ("forward",)}),
    ("fitting", "do_fit", {"demand": DEMAND, "numbers": (0, 2)}),
    ("fitting", "index_for", {"demand": DEMAND, "numbers": (0,)}),
    ("fitting", "fit_paper", {"demand": DEMAND, "numbers": (0, 1, 3)}),
    ("fitting", "check_fit", {"demand": DEMAND, "numbers": (0, 3), "paper": ("sets", 0, 1, 3, 0)}),
    ("fitting", "is_ahead", {"demand": DEMAND, "one": 0, "other": 2}),
    ("covering", "are_apart", {"demand": DEMAND, "numbers": (0, 1)}),
    ("covering", "fewest", {"demand": DEMAND}),
    ("covering", "fewest_paper", {"demand": DEMAND}),
    ("covering", "check_fewest", {"demand": PAIR, "paper": (((STEP_UP,), (STEP_DOWN,)), (0, 1))}),
    ("aparts", "greatest_lots", {"demand": DEMAND}),
    ("aparts", "critical", {"demand": DEMAND}),
    ("aparts", "needs_more", {"demand": DEMAND, "lookup": ((2,), ())}),
    ("prices", "cost_of", {"columns": 3, "prices": (1, 0, 5), "indexes": (INDEX, INDEX)}),
    ("prices", "least_cost", {"demand": DEMAND, "prices": (1, 0, 5)}),
    ("prices", "cost_paper", {"demand": DEMAND, "prices": (1, 0, 5)}),
    ("prices", "check_cost", {"demand": PAIR, "prices": (1, 2), "paper": (((STEP_UP,), (STEP_DOWN,)), (0, 0), (0, 0))}),
    ("bests", "best_sum", {"demand": PAIR, "worths": (4, 5), "k": 1}),
    ("bests", "best_sums", {"demand": PAIR, "worths": (4, 5)}),
    ("bests", "best_paper", {"demand": PAIR, "worths": (4, 5), "k": 1}),
    ("bests", "check_best", {"demand": PAIR, "worths": (4, 5), "k": 1, "paper": (((STEP_DOWN,),), 5, (0, 0))}),
    ("stock", "lost", {"demand": DEMAND, "stock": STOCK}),
    ("stock", "is_idle", {"demand": DEMAND, "stock": STOCK, "number": 1}),
    ("stock", "is_in", {"columns": 3, "one": INDEX[:2], "other": INDEX}),
    ("stock", "trimmed", {"demand": DEMAND, "index": INDEX}),
    ("stock", "least_add", {"demand": DEMAND, "stock": STOCK}),
    ("stock", "add_paper", {"demand": DEMAND, "stock": STOCK}),
    ("stock", "check_add", {"demand": PAIR, "stock": ((STEP_UP,),), "paper": (((STEP_DOWN,),), (1,))}),
    ("stock", "best_change", {"demand": DEMAND, "stock": STOCK}),
    ("tells", "need_tells", {"columns": 3, "thing": TELLS}),
    ("tells", "closure", {"columns": 3, "tells": TELLS, "lot": (0,)}),
    ("tells", "does_obey", {"columns": 3, "tells": TELLS, "table": TABLE}),
    ("tells", "cut_steps", {"columns": 3, "tells": TELLS, "lookup": OTHER}),
    ("tells", "closed_sets", {"columns": 3, "tells": TELLS, "lookup": OTHER}),
    ("under", "way_under", {"columns": 3, "tells": TELLS, "index": INDEX, "lookup": OTHER}),
    ("under", "under_paper", {"columns": 3, "tells": TELLS, "index": INDEX, "lookup": ((1,), ())}),
    ("under", "check_under", {"columns": 3, "tells": TELLS, "index": INDEX, "lookup": OTHER, "paper": ("forward",)}),
    ("under", "do_fit_under", {"demand": DEMAND, "tells": TELLS, "numbers": (0, 2)}),
    ("under", "index_under", {"demand": DEMAND, "tells": TELLS, "numbers": (0, 2)}),
    ("fewunder", "fewest_under", {"demand": DEMAND, "tells": TELLS}),
    ("fewunder", "fewunder_paper", {"demand": DEMAND, "tells": TELLS}),
    ("fewunder", "check_fewunder", {"demand": PAIR, "tells": (), "paper": (((STEP_UP,), (STEP_DOWN,)), (0, 1))}),
    ("needs", "do_meet", {"columns": 3, "needs": NEEDS, "indexes": STOCK}),
    ("needs", "least_for", {"columns": 3, "needs": NEEDS}),
    ("needs", "needs_paper", {"columns": 3, "needs": NEEDS[:1] * 2 + (NEEDS[0][:1], (((1,), ()),))}),
    ("needs", "check_needs", {"columns": 3, "needs": ((((0,), ()),), (((1,), ()), ((1,), ((2, "up"),)))),
                              "paper": (STOCK, ("need", 0, (("need", 1, (("most", (0, 1)), ("most", (0, 1)))),)))}),
    ("parts", "need_part", {"columns": 3, "thing": PART}),
    ("parts", "lookups_for", {"columns": 3, "part": PART}),
    ("parts", "is_hard", {"columns": 3, "part": PART}),
    ("parts", "does_do", {"columns": 3, "index": INDEX, "part": PART}),
    ("parts", "is_done", {"columns": 3, "table": TABLE, "index": INDEX, "part": PART}),
    ("parts", "undone_table", {"columns": 3, "index": INDEX[::-1], "part": PART}),
    ("terms", "need_term", {"columns": 3, "thing": TERM}),
    ("terms", "parts_of", {"columns": 3, "term": TERM}),
    ("terms", "kids_of", {"columns": 3, "term": TERM}),
    ("terms", "choices_of", {"columns": 3, "term": TERM}),
    ("terms", "doers", {"columns": 3, "term": TERM, "indexes": (INDEX, INDEX[1:])}),
    ("needcosts", "least_needcost", {"columns": 3, "needs": NEEDS, "prices": (1, 0, 5)}),
    ("needcosts", "needcost_paper", {"columns": 3, "needs": NEEDS, "prices": (1, 0, 5)}),
    ("needcosts", "check_needcost", {"columns": 3, "needs": NEEDS[:1] * 2, "prices": (4, 0, 5),
                                     "paper": (STOCK[:1], ("need", 0, (("dear", (0,), (0,)), ("dear", (0,), (0,)))))}),
    ("needbests", "best_needsum", {"columns": 3, "needs": NEEDS, "worths": (4, 5), "k": 1}),
    ("needbests", "needbest_paper", {"columns": 3, "needs": NEEDS, "worths": (4, 5), "k": 1}),
    ("needbests", "check_needbest", {"columns": 3, "needs": NEEDS, "worths": (4, 5), "k": 2,
                                     "paper": (STOCK, ("tolls", 0, ()))}),
    ("underbests", "is_stretch", {"columns": 3, "tells": TELLS, "one": ((0,), ()), "other": LOOKUP}),
    ("underbests", "lone_lookups", {"demand": DEMAND, "tells": TELLS}),
    ("underbests", "best_under", {"demand": PAIR, "tells": (((), (0,)),), "worths": (4, 5), "k": 1}),
    ("underbests", "bests_under", {"demand": PAIR, "tells": (), "worths": (4, 5)}),
    ("underbests", "best_under_paper", {"demand": PAIR, "tells": (), "worths": (4, 5), "k": 1}),
    ("underbests", "check_best_under", {"demand": PAIR, "tells": (), "worths": (4, 5), "k": 1,
                                        "paper": (((STEP_DOWN,),), 5, (0, 0))}),
    ("underbests", "profit", {"demand": PAIR, "tells": (), "worths": (4, 5), "toll": 2}),
    ("underbests", "profit_paper", {"demand": PAIR, "tells": (), "worths": (4, 5), "toll": 2}),
    ("underbests", "check_profit", {"demand": PAIR, "tells": (), "worths": (4, 5), "toll": 4,
                                    "paper": (((STEP_DOWN,),), (0, 1))}),
    ("stockprices", "change_cost", {"demand": PAIR, "prices": (1, 2), "stock": ((STEP_UP,),), "upkeeps": (3,),
                                    "change": ((0,), ((STEP_DOWN,),))}),
    ("stockprices", "least_change_cost", {"demand": DEMAND, "prices": (1, 2, 3), "stock": STOCK, "upkeeps": (3, 4)}),
    ("stockprices", "cheapest_change", {"demand": DEMAND, "prices": (1, 2, 3), "stock": STOCK, "upkeeps": (3, 4)}),
    ("stockprices", "limit_of", {"demand": DEMAND, "prices": (1, 2, 3), "stock": STOCK, "upkeeps": (3, 4), "number": 1}),
    ("stockprices", "change_paper", {"demand": DEMAND, "prices": (1, 2, 3), "stock": STOCK, "upkeeps": (3, 4)}),
    ("stockprices", "check_change", {"demand": PAIR, "prices": (1, 2), "stock": ((STEP_UP,),), "upkeeps": (0,),
                                     "paper": (((0,), ((STEP_DOWN,),)), ("bound", (0,), (0,)))}),
    ("texts", "term_text", {"columns": 3, "term": TERM}),
    ("texts", "index_text", {"columns": 3, "index": INDEX}),
    ("texts", "read_term", {"columns": 3, "text": "either rows sorted 1 2 up rows"}),
    ("texts", "read_index", {"columns": 3, "text": "2 up 0 down"}),
    ("judge", "judged", {"text": "3\neither rows sorted 1 2 up rows\nfree 0\ndoes 1 2 down"}),
]

# Of what () may be passed as.
MAY_BE_NONE = ("table", "stock", "tells", "lot", "indexes")

# What is refused, and could be changed by a careless program.
SOFT = [[], [3, [((0,), ())]], {}, {0: [1]}, ["within"], ([0], []), ([], {}), [[0, "up"]], (3, [((0,), ())])]


def is_hard(thing):
    """Whether nothing in it can be changed."""
    if isinstance(thing, tuple):
        return all(is_hard(part) for part in thing)
    return thing is None or type(thing) in (int, str, bool)


class Calls(unittest.TestCase):
    def each(self):
        for file, name, given in CALLS:
            yield name, getattr(importlib.import_module(f"fewindexes.{file}"), name), given

    def test_by_position_and_by_name(self):
        for name, call, given in self.each():
            self.assertEqual(call(*given.values()), call(**given), name)

    def test_equal_calls_tell_equal_things(self):
        for name, call, given in self.each():
            first = call(*given.values())
            again = call(*copy.deepcopy(list(given.values())))
            self.assertEqual(first, again, name)
            self.assertEqual(type(first), type(again), name)

    def test_what_is_told_cannot_be_changed(self):
        # so no later call can be told otherwise by what a caller does with it
        for name, call, given in self.each():
            self.assertTrue(is_hard(call(*given.values())), name)

    def test_nothing_that_is_passed_is_changed(self):
        for name, call, given in self.each():
            for at in range(len(given)):
                for soft in SOFT:
                    passed = copy.deepcopy(soft)
                    error_of(call, *[passed if place == at else thing for place, thing in enumerate(given.values())])
                    self.assertEqual(passed, soft, name)

    def test_refused_where_each_argument_is_wrong(self):
        for name, call, given in self.each():
            for at, wanted in enumerate(given):
                for thing in (None, -1, True, "x", [], {}, (), ((),), (None,), 3.5j, Oddity(), Thorny(), (Thorny(),)):
                    empty = type(thing) is tuple and not thing
                    if empty and (wanted in MAY_BE_NONE or name in ("need_table", "need_tells")):
                        continue
                    told = error_of(call, *[thing if place == at else right
                                            for place, right in enumerate(given.values())])
                    self.assertIsNotNone(told, (name, wanted))
                    self.assertIn(told[0][:3], ("Bad",), (name, wanted))

    def test_the_first_wrong_argument_is_refused(self):
        for name, call, given in self.each():
            right = list(given.values())
            for at in range(len(right)):
                first = error_of(call, *right[:at], "x", *right[at + 1:])
                for later in range(at + 1, len(right)):
                    both = right[:at] + ["x"] + right[at + 1:later] + ["y"] + right[later + 1:]
                    self.assertEqual(error_of(call, *both), first, name)


def a_book():
    book = Book(3)
    for row in TABLE[1:]:
        book.add(row)
    book.make(INDEX)
    book.claim((0, 1))
    return book


def a_shelf():
    shelf = Shelf(3)
    shelf.put("b", TERM)
    shelf.put("a", ("rows",))
    return shelf


def a_desk():
    desk = Desk("3")
    desk.say("add 0 1 2")
    return desk


def state_of(thing):
    """All that an object tells of itself."""
    if isinstance(thing, Desk):
        return state_of(thing.book)
    if isinstance(thing, Shelf):
        return tuple((name, thing.seek(name)) for name in thing.names())
    return (thing.table, thing.indexes, thing.held_keys, len(thing))


# Of each method what makes an object, its name, right arguments, and what is told.
METHOD_CALLS = [
    (a_book, "add", ((7, 7, 7),), None),
    (a_book, "remove", (TABLE[1],), None),
    (a_book, "make", (INDEX[:1],), None),
    (a_book, "drop", (0,), None),
    (a_book, "claim", ((1, 2),), None),
    (a_book, "waive", ((0, 1),), None),
    (a_book, "read", (LOOKUP, (0,)), (0, ((0, 2, 0), (0, 1, 2)))),
    (a_book, "covers", (TERM,), (0, 0)),
    (a_book, "undo", (2,), None),
    (a_shelf, "put", ("c", TERM), None),
    (a_shelf, "take", ("a",), ("rows",)),
    (a_shelf, "seek", ("b",), TERM),
    (a_shelf, "names", (), ("a", "b")),
    (a_shelf, "alike", (), ()),
    (a_shelf, "done_by", (INDEX,), ("a", "b")),
    (a_shelf, "done_by", (INDEX[1:],), ("a",)),
    (a_shelf, "choices", (), choices_of(3, TERM)),
    (a_desk, "say", ("rows",), "1"),
]
WRONG_THINGS = (None, -1, True, "x", "X", [], {}, ((),), (None,), 3.5j, Oddity(), Thorny(), (Thorny(),))


class Methods(unittest.TestCase):
    def test_equal_calls_tell_equal_things(self):
        for make, name, given, due in METHOD_CALLS:
            one, other = make(), make()
            told = getattr(one, name)(*given)
            self.assertEqual(told, getattr(other, name)(*copy.deepcopy(given)), name)
            self.assertEqual(state_of(one), state_of(other))
            self.assertTrue(is_hard(told))
            self.assertEqual(told, due, name)
            if name in ("read", "covers", "seek", "names", "alike", "done_by", "choices", "say"):
                self.assertEqual(state_of(one), state_of(make()), name)
                self.assertEqual(getattr(one, name)(*given), told)

    def test_refused_where_each_argument_is_wrong(self):
        for make, name, given, _ in METHOD_CALLS:
            for at in range(len(given)):
                for thing in WRONG_THINGS:
                    if name in ("put", "take", "seek") and at == 0 and repr(thing) == "'x'":
                        continue
                    one = make()
                    passed = [thing if place == at else right for place, right in enumerate(given)]
                    if name == "say":
                        self.assertEqual(one.say(thing), "no")
                    else:
                        told = error_of(getattr(one, name), *passed)
                        self.assertIn(told[0], ("BadName", "BadTerm", "Missing") if make is a_shelf and name != "done_by" else
                                      ("BadRow", "BadIndex", "BadNumber", "BadKey", "BadLookup", "BadValues", "BadTerm"), name)
                    self.assertEqual(state_of(one), state_of(make()), (name, "has changed"))

    def test_the_first_wrong_argument_is_refused(self):
        self.assertEqual(error_of(a_book().read, "x", "y"), ("BadLookup", {"given": "x"}))
        self.assertEqual(error_of(a_book().read, LOOKUP, "y"), ("BadValues", {"given": "y"}))
        self.assertEqual(error_of(a_shelf().put, "X", "y"), ("BadName", {"given": "X"}))
        self.assertEqual(error_of(a_shelf().put, "x", "y"), ("BadTerm", {"path": ()}))

    def test_nothing_that_is_passed_is_changed(self):
        for make, name, given, _ in METHOD_CALLS:
            for at in range(len(given)):
                for soft in SOFT:
                    passed = copy.deepcopy(soft)
                    one = make()
                    error_of(getattr(one, name), *[passed if place == at else thing for place, thing in enumerate(given)])
                    self.assertEqual(passed, soft, name)
                    self.assertEqual(state_of(one), state_of(make()))


if __name__ == "__main__":
    unittest.main()
