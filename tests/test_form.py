"""The files of the package by LANGUAGE.md: a narrower language than its rules allow, so that none is broken."""

import ast
import builtins
import os
import re
import unittest

ROOT = os.path.dirname(os.path.dirname(os.path.abspath(__file__)))
FOLDER = os.path.join(ROOT, "fewindexes")

INTERFACE = {
    "errors": "FewError BadText BadDemand BadPaper BadStock BadTells BadNeeds BadIndexes BadTerm BadNumber BadNumbers "
              "BadLookup BadIndex BadTable BadWay BadValues BadPrices BadWorths BadPart BadRow BadKey BadName BadLot "
              "BadUpkeeps BadChange Broken TooMany Missing NothingLeft",
    "demands": "need_demand(thing) need_lookup(columns,thing) sets_of(columns,lookup) bare_lookups(demand)",
    "indexes": "need_index(columns,thing) beginnings(columns,index) way_of(columns,index,lookup) "
               "does_serve(columns,index,lookup) served_by(demand,index)",
    "within": "is_within(columns,one,other) within_paper(columns,one,other) check_within(columns,one,other,paper)",
    "tables": "need_table(columns,thing) listing(columns,table,index) does_keep(columns,table,index,lookup,way) "
              "rows_for(columns,table,lookup,values) serve_paper(columns,index,lookup) "
              "check_serve(columns,index,lookup,paper)",
    "fitting": "do_fit(demand,numbers) index_for(demand,numbers) fit_paper(demand,numbers) "
               "check_fit(demand,numbers,paper) is_ahead(demand,one,other)",
    "covering": "are_apart(demand,numbers) fewest(demand) fewest_paper(demand) check_fewest(demand,paper)",
    "aparts": "greatest_lots(demand) critical(demand) needs_more(demand,lookup)",
    "prices": "cost_of(columns,prices,indexes) least_cost(demand,prices) cost_paper(demand,prices) "
              "check_cost(demand,prices,paper)",
    "bests": "best_sum(demand,worths,k) best_sums(demand,worths) best_paper(demand,worths,k) "
             "check_best(demand,worths,k,paper)",
    "stock": "lost(demand,stock) is_idle(demand,stock,number) is_in(columns,one,other) trimmed(demand,index) "
             "least_add(demand,stock) add_paper(demand,stock) check_add(demand,stock,paper) best_change(demand,stock)",
    "tells": "need_tells(columns,thing) closure(columns,tells,lot) does_obey(columns,tells,table) "
             "cut_steps(columns,tells,lookup) closed_sets(columns,tells,lookup)",
    "under": "way_under(columns,tells,index,lookup) under_paper(columns,tells,index,lookup) "
             "check_under(columns,tells,index,lookup,paper) do_fit_under(demand,tells,numbers) "
             "index_under(demand,tells,numbers)",
    "fewunder": "fewest_under(demand,tells) fewunder_paper(demand,tells) check_fewunder(demand,tells,paper)",
    "needs": "do_meet(columns,needs,indexes) least_for(columns,needs) needs_paper(columns,needs) "
             "check_needs(columns,needs,paper)",
    "parts": "need_part(columns,thing) lookups_for(columns,part) is_hard(columns,part) does_do(columns,index,part) "
             "is_done(columns,table,index,part) undone_table(columns,index,part)",
    "terms": "need_term(columns,thing) parts_of(columns,term) kids_of(columns,term) choices_of(columns,term) "
             "doers(columns,term,indexes)",
    "books": "Book(columns) under(manager,deed)",
    "shelves": "Shelf(columns)",
    "texts": "term_text(columns,term) index_text(columns,index) read_term(columns,text) read_index(columns,text)",
    "judge": "judged(text)",
    "desk": "Desk(text)",
    "needcosts": "least_needcost(columns,needs,prices) needcost_paper(columns,needs,prices) "
                 "check_needcost(columns,needs,prices,paper)",
    "needbests": "best_needsum(columns,needs,worths,k) needbest_paper(columns,needs,worths,k) "
                 "check_needbest(columns,needs,worths,k,paper)",
    "underbests": "is_stretch(columns,tells,one,other) lone_lookups(demand,tells) best_under(demand,tells,worths,k) "
                  "bests_under(demand,tells,worths) best_under_paper(demand,tells,worths,k) "
                  "check_best_under(demand,tells,worths,k,paper) profit(demand,tells,worths,toll) "
                  "profit_paper(demand,tells,worths,toll) check_profit(demand,tells,worths,toll,paper)",
    "stockprices": "change_cost(demand,prices,stock,upkeeps,change) least_change_cost(demand,prices,stock,upkeeps) "
                   "cheapest_change(demand,prices,stock,upkeeps) limit_of(demand,prices,stock,upkeeps,number) "
                   "change_paper(demand,prices,stock,upkeeps) check_change(demand,prices,stock,upkeeps,paper)",
}

# Of each class that is not an error its methods and, marked so, its properties.
CLASSES = {
    "Book": "table:property indexes:property held_keys:property add(row) remove(row) make(index) drop(which) claim(lot) "
            "waive(lot) read(lookup,values) covers(term) undo(many=1) copy() trial() __len__() __eq__(other)",
    "Shelf": "put(name,term) take(name) seek(name) names() alike() done_by(index) choices() __len__() __contains__(name) "
             "__eq__(other)",
    "Desk": "book:property say(line)",
}
SPECIAL = {"__init__", "__len__", "__eq__", "__contains__", "__enter__", "__exit__"}

STATEMENTS = (ast.FunctionDef, ast.ClassDef, ast.Return, ast.Assign, ast.For, ast.While, ast.If, ast.Raise,
              ast.ImportFrom, ast.Expr, ast.AugAssign, ast.Continue, ast.Break, ast.With, ast.Try)
EXPRESSIONS = (ast.BoolOp, ast.BinOp, ast.UnaryOp, ast.IfExp, ast.Dict, ast.ListComp, ast.DictComp, ast.Compare,
               ast.Call, ast.Constant, ast.Attribute, ast.Subscript, ast.Starred, ast.Name, ast.List, ast.Tuple,
               ast.Slice)
OPERATORS = (ast.And, ast.Or, ast.Add, ast.Sub, ast.Mult, ast.FloorDiv, ast.LShift, ast.BitAnd, ast.BitOr, ast.BitXor,
             ast.Not, ast.USub, ast.Eq, ast.NotEq,
             ast.Lt, ast.LtE, ast.Gt, ast.GtE, ast.Is, ast.IsNot, ast.In, ast.NotIn)
PARTS = (ast.Module, ast.arguments, ast.arg, ast.alias, ast.comprehension, ast.Load, ast.Store, ast.withitem,
         ast.ExceptHandler)
CALLED = {"len", "range", "enumerate", "sum", "sorted", "tuple", "list", "dict", "set", "any", "all", "min", "max",
          "type", "zip", "int", "str", "isinstance", "reversed"}
ITERATED_AT_ONCE = {"range", "enumerate", "zip", "reversed"}
VIEWS = {"items", "values"}
METHODS = {"append", "extend", "get", "setdefault", "pop", "index", "split", "join"} | VIEWS
NEVER_IN_A_FILE = {"typing", "typing_extensions", "enum", "Enum", "IntEnum", "StrEnum", "Flag", "IntFlag", "Generic",
                   "Protocol", "ABC", "ABCMeta", "namedtuple", "NamedTuple", "TypedDict", "TYPE_CHECKING",
                   "abstractmethod", "dataclass", "overload", "contextmanager", "_wall", "_WallAttr", "global",
                   "lambda", "yield", "print", "float"}
NO_NAMES = {"register", "mro", "elements", "open", "input", "law", "version_info", "with_traceback", "add_note",
            "copyright", "credits", "exit", "license", "os", "sys", "gc", "help", "locals", "vars", "attrgetter",
            "methodcaller", "importlib", "builtins", "args"}


def sources():
    for name in sorted(os.listdir(FOLDER)):
        if name != "__pycache__":
            with open(os.path.join(FOLDER, name), encoding="utf-8", newline="") as file:
                yield name, file.read()


def bound_names(tree):
    """All names that stand for something in a file or a part of one: stored, defined, parameters, imported."""
    found = []
    for node in ast.walk(tree):
        if isinstance(node, ast.Name) and isinstance(node.ctx, ast.Store):
            found.append(node.id)
        elif isinstance(node, (ast.FunctionDef, ast.ClassDef)):
            found.append(node.name)
        elif isinstance(node, ast.arg):
            found.append(node.arg)
        elif isinstance(node, ast.ImportFrom):
            found.extend(alias.asname or alias.name for alias in node.names)
    return found


def classes():
    """All classes but errors, each behind the name of its file."""
    return [(name, node) for name, text in sources() if name != "errors.py" for node in ast.parse(text).body
            if isinstance(node, ast.ClassDef)]


def methods_of(node):
    return [part for part in node.body if isinstance(part, ast.FunctionDef)]


class Files(unittest.TestCase):
    def test_names_and_sizes(self):
        for name, text in sources():
            self.assertRegex(name, r"^(__init__|[a-z][a-z0-9_]*)\.py$")
            self.assertFalse(name.startswith(("law_", "test")) or name[:-3] in dir(builtins), name)
            lines = text.split("\n")
            self.assertLessEqual(len(lines), 399, name)
            self.assertLessEqual(max(len(line) for line in lines), 120, name)
            self.assertTrue(text.endswith("\n") and not text.endswith("\n\n"), name)
            self.assertTrue(all(" " <= sign <= "~" or sign == "\n" for sign in text), name)
            self.assertFalse([line for line in lines if line != line.rstrip()], name)

    def test_words(self):
        for name, text in sources():
            words = set(re.findall(r"[A-Za-z_]+", text))
            self.assertFalse(words & NEVER_IN_A_FILE, name)
            self.assertNotIn("%", text)
            self.assertNotIn("\\", text.replace('"\\n"', ""))

    def test_functions_are_short_and_plain(self):
        for name, text in sources():
            for node in ast.walk(ast.parse(text)):
                if isinstance(node, ast.FunctionDef):
                    self.assertLessEqual(node.end_lineno - node.lineno + 1, 40, node.name)
                    self.assertFalse(node.returns, node.name)
                    given = node.args
                    self.assertFalse(given.vararg or given.kwarg or given.kwonlyargs or given.posonlyargs)
                    self.assertTrue(all(isinstance(told, ast.Constant) for told in given.defaults), node.name)
                    bare = node.name in ("__init__", "__exit__")
                    self.assertIsNotNone(ast.get_docstring(node) or bare or None, node.name)
                    nested = [part for part in ast.walk(node) if isinstance(part, (ast.FunctionDef, ast.ClassDef))]
                    self.assertEqual(nested, [node], node.name)


class Nodes(unittest.TestCase):
    def test_only_these(self):
        for name, text in sources():
            for node in ast.walk(ast.parse(text)):
                self.assertIsInstance(node, STATEMENTS + EXPRESSIONS + OPERATORS + PARTS, (name, ast.dump(node)))
                if isinstance(node, ast.Constant):
                    self.assertIn(type(node.value), (int, str, bool, type(None)), name)
                if isinstance(node, ast.Call):
                    self.assertFalse(node.keywords, name)
                if isinstance(node, ast.BinOp) and isinstance(node.op, ast.LShift):
                    self.assertEqual(ast.unparse(node.left), "1", name)

    def test_module_level(self):
        for name, text in sources():
            tree = ast.parse(text)
            self.assertIsNotNone(ast.get_docstring(tree), name)
            imports = True
            for node in tree.body[1:]:
                self.assertIsInstance(node, (ast.ImportFrom, ast.FunctionDef, ast.ClassDef, ast.Assign), name)
                self.assertTrue(imports or not isinstance(node, ast.ImportFrom), name)
                imports = imports and isinstance(node, ast.ImportFrom)
                if isinstance(node, ast.Assign):
                    self.assertEqual(len(node.targets), 1)
                    self.assertIsInstance(node.targets[0], ast.Name)
                    self.assertIsInstance(node.value, (ast.Constant, ast.Tuple, ast.Dict), name)
                    ast.literal_eval(node.value)

    def test_calls(self):
        methods = METHODS | {part.name for _, node in classes() for part in methods_of(node) if part.name not in SPECIAL}
        for name, text in sources():
            tree = ast.parse(text)
            own = set(bound_names(tree))
            for node in ast.walk(tree):
                if not isinstance(node, ast.Call):
                    continue
                if isinstance(node.func, ast.Attribute):
                    self.assertIn(node.func.attr, methods, name)
                else:
                    self.assertIsInstance(node.func, ast.Name, name)
                    self.assertTrue(node.func.id in CALLED or node.func.id in own, (name, node.func.id))

    def test_builtins_are_called_and_used_where_they_may(self):
        for name, text in sources():
            tree = ast.parse(text)
            for node in ast.walk(tree):
                for field, part in ast.iter_fields(node):
                    for child in part if isinstance(part, list) else [part]:
                        self.builtin_used(name, node, field, child)

    def builtin_used(self, name, node, field, child):
        if isinstance(child, ast.Call) and isinstance(child.func, ast.Name):
            told = child.func.id
            if told in ITERATED_AT_ONCE:
                listed = isinstance(node, ast.Call) and ast.unparse(node.func) == "list"
                looped = isinstance(node, (ast.For, ast.comprehension)) and field == "iter"
                self.assertTrue(listed or looped, (name, told))
            if told == "set":
                self.assertIn(ast.unparse(node.func) if isinstance(node, ast.Call) else None, ("len", "sorted"), name)
            if told == "type":
                self.assertTrue(isinstance(node, ast.Compare) and isinstance(node.ops[0], (ast.Is, ast.IsNot)))
                self.assertIn(ast.unparse(node.comparators[0]), ("int", "str", "tuple"), name)
        if isinstance(child, ast.Call) and isinstance(child.func, ast.Attribute) and child.func.attr in VIEWS:
            listed = isinstance(node, ast.Call) and ast.unparse(node.func) in ("list", "enumerate")
            looped = isinstance(node, (ast.For, ast.comprehension)) and field == "iter"
            self.assertTrue(listed or looped, (name, child.func.attr))
        if isinstance(child, ast.Name) and child.id in dir(builtins) and isinstance(child.ctx, ast.Load):
            called = isinstance(node, ast.Call) and field == "func"
            kind = isinstance(node, ast.Compare) and field == "comparators" and child.id in ("int", "str", "tuple")
            over = field == "decorator_list" and child.id == "property"
            self.assertTrue(called or kind or over or isinstance(node, ast.ClassDef), (name, child.id))

    def test_is_beside_none_and_kinds_alone(self):
        for name, text in sources():
            for node in ast.walk(ast.parse(text)):
                if isinstance(node, ast.Compare) and isinstance(node.ops[0], (ast.Is, ast.IsNot)):
                    self.assertIn(ast.unparse(node.comparators[0]), ("None", "int", "str", "tuple"), name)

    def test_what_is_looped_over_is_not_changed(self):
        for name, text in sources():
            for loop in ast.walk(ast.parse(text)):
                if isinstance(loop, ast.For):
                    over = {ast.unparse(part) for part in ast.walk(loop.iter) if isinstance(part, (ast.Name))}
                    body = ast.Module(body=loop.body, type_ignores=[])
                    for node in ast.walk(body):
                        if isinstance(node, ast.Call) and isinstance(node.func, ast.Attribute):
                            if node.func.attr in ("append", "extend", "setdefault"):
                                self.assertNotIn(ast.unparse(node.func.value), over, (name, loop.lineno))
                        if isinstance(node, ast.Subscript) and isinstance(node.ctx, ast.Store):
                            self.assertNotIn(ast.unparse(node.value), over, (name, loop.lineno))

    def test_errors_are_made_where_they_are_raised(self):
        for name, text in sources():
            for node in ast.walk(ast.parse(text)):
                if isinstance(node, ast.Raise):
                    self.assertIsInstance(node.exc, ast.Call, name)
                    self.assertIsNone(node.cause, name)

    def test_own_errors_alone_are_caught(self):
        own = {node.name for name, text in sources() if name == "errors.py" for node in ast.parse(text).body
               if isinstance(node, ast.ClassDef)}
        for name, text in sources():
            for node in ast.walk(ast.parse(text)):
                if isinstance(node, ast.Try):
                    self.assertFalse(node.orelse or node.finalbody, name)
                if isinstance(node, ast.ExceptHandler):
                    self.assertIsNone(node.name, name)
                    told = node.type.elts if isinstance(node.type, ast.Tuple) else [node.type]
                    self.assertFalse({ast.unparse(part) for part in told} - own, name)


class Names(unittest.TestCase):
    def test_no_name_means_two_things(self):
        for name, text in sources():
            tree = ast.parse(text)
            top = []
            for node in tree.body:
                top.extend(bound_names(node) if isinstance(node, (ast.ImportFrom, ast.Assign)) else
                           [node.name] if isinstance(node, (ast.FunctionDef, ast.ClassDef)) else [])
            self.assertEqual(len(top), len(set(top)), name)
            for node in ast.walk(tree):
                if isinstance(node, ast.FunctionDef):
                    inner = set(bound_names(node)) - {node.name}
                    self.assertFalse(inner & set(top), (name, node.name))

    def test_no_name_that_is_barred(self):
        for name, text in sources():
            for told in bound_names(ast.parse(text)):
                self.assertNotIn(told, dir(builtins), name)
                self.assertNotIn(told, NO_NAMES, name)
                if told not in SPECIAL:
                    self.assertRegex(told, r"^(_|_?[A-Za-z][A-Za-z0-9_]*)$")
            for node in ast.walk(ast.parse(text)):
                if isinstance(node, ast.Name) and isinstance(node.ctx, ast.Load):
                    self.assertNotEqual(node.id, "_", name)

    def test_variables_of_comprehensions_are_their_own(self):
        for name, text in sources():
            for function in ast.walk(ast.parse(text)):
                if isinstance(function, ast.FunctionDef):
                    for outer in ast.walk(function):
                        if isinstance(outer, ast.ListComp):
                            self.inner_names(name, outer)

    def inner_names(self, name, outer):
        own = set(bound_names(outer))
        names = [told for told in bound_names(outer)]
        self.assertEqual(len(names), len(own), (name, outer.lineno))

    def test_imports(self):
        trees = {name[:-3]: ast.parse(text) for name, text in sources()}
        asked = {}
        for name, tree in trees.items():
            asked[name] = []
            loads = {node.id for node in ast.walk(tree) if isinstance(node, ast.Name)}
            for node in ast.walk(tree):
                if isinstance(node, ast.ImportFrom):
                    self.assertEqual(node.level, 0)
                    self.assertRegex(node.module, r"^fewindexes\.[a-z]+$")
                    other = node.module.split(".")[1]
                    asked[name].append(other)
                    defined = {told for part in trees[other].body if not isinstance(part, ast.ImportFrom)
                               for told in ([part.name] if hasattr(part, "name") else bound_names(part))}
                    for alias in node.names:
                        self.assertIsNone(alias.asname)
                        self.assertIn(alias.name, defined, (name, other))
                        self.assertIn(alias.name, loads, (name, "imports in vain"))
        while asked:
            ready = [name for name, others in asked.items() if not set(others) & set(asked)]
            self.assertTrue(ready, f"import each other: {sorted(asked)}")
            asked = {name: others for name, others in asked.items() if name not in ready}


class Interface(unittest.TestCase):
    def test_defined_where_it_is_listed(self):
        trees = {name[:-3]: ast.parse(text) for name, text in sources()}
        for name, listed in INTERFACE.items():
            told = set()
            for node in trees[name].body:
                if isinstance(node, ast.ClassDef):
                    made = [part for part in methods_of(node) if part.name == "__init__"]
                    told.add(node.name)
                    told.add(f"{node.name}({','.join(given.arg for part in made for given in part.args.args[1:])})")
                elif isinstance(node, ast.FunctionDef):
                    told.add(f"{node.name}({','.join(given.arg for given in node.args.args)})")
            self.assertFalse(set(listed.split()) - told, name)

    def test_what_is_said_again(self):
        # each function of the package has a name of its own, so that a reader finds it by that
        told = [node.name for _, text in sources() for node in ast.parse(text).body
                if isinstance(node, (ast.FunctionDef, ast.ClassDef))]
        self.assertEqual(len(told), len(set(told)))

    def test_classes_have_their_methods_in_themselves(self):
        seen = []
        for name, node in classes():
            seen.append(node.name)
            told = set()
            for part in methods_of(node):
                names = [given.arg for given in part.args.args][1:]
                for at, default in enumerate(reversed(part.args.defaults)):
                    names[-1 - at] += f"={ast.unparse(default)}"
                told.add(f"{part.name}:property" if part.decorator_list else f"{part.name}({','.join(names)})")
            self.assertFalse(set(CLASSES.get(node.name, "").split()) - told, name)
        self.assertFalse(set(CLASSES) - set(seen))


class Classes(unittest.TestCase):
    """What L5, L18, L26 and L28 want of classes that are no errors."""

    def test_methods(self):
        for name, node in classes():
            self.assertFalse(node.bases or node.keywords or node.decorator_list, name)
            self.assertIsNotNone(ast.get_docstring(node), name)
            for part in node.body[1:]:
                self.assertIsInstance(part, ast.FunctionDef, name)
                self.assertEqual(part.args.args[0].arg, "self", name)
                self.assertIn([ast.unparse(told) for told in part.decorator_list], ([], ["property"]), name)
                self.assertTrue(part.name in SPECIAL or not part.name.startswith("__"), part.name)
            told = [part.name for part in methods_of(node)]
            self.assertEqual(len(told), len(set(told)), name)

    def test_names_are_no_attributes_and_no_builtins(self):
        stored, methods, properties = set(), set(), set()
        for name, text in sources():
            for node in ast.walk(ast.parse(text)):
                if isinstance(node, ast.Attribute) and isinstance(node.ctx, ast.Store):
                    self.assertIsInstance(node.value, ast.Name, name)
                    stored.add(node.attr)
        for _, node in classes():
            for part in methods_of(node):
                (properties if part.decorator_list else methods).add(part.name)
        self.assertFalse(stored & methods)
        self.assertFalse(stored & properties)
        self.assertFalse(properties & methods)
        of_values = {told for kind in (str, int, list, dict, set, tuple, bytes) for told in dir(kind)}
        self.assertFalse(stored & of_values)
        self.assertEqual(methods & of_values - SPECIAL, {"add", "remove", "copy"} & methods)
        self.assertFalse(properties & of_values)
        self.assertFalse((methods | properties) & CALLED)

    def test_attributes_that_are_read(self):
        known = set(METHODS)
        for name, text in sources():
            for node in ast.walk(ast.parse(text)):
                if isinstance(node, ast.Attribute) and isinstance(node.ctx, ast.Store):
                    known.add(node.attr)
        known |= {part.name for _, node in classes() for part in methods_of(node)}
        for name, text in sources():
            for node in ast.walk(ast.parse(text)):
                if isinstance(node, ast.Attribute):
                    self.assertIn(node.attr, known, name)

    def test_what_must_not_change_anything(self):
        """Properties, __eq__, __len__ and __contains__ are one return of what is read or compared."""
        for name, node in classes():
            for part in methods_of(node):
                if part.decorator_list or part.name in ("__eq__", "__len__", "__contains__"):
                    rows = part.body[1:]
                    self.assertEqual(len(rows), 1, part.name)
                    self.assertIsInstance(rows[0], ast.Return)
                    if part.name == "__len__":
                        self.assertRegex(ast.unparse(rows[0]), r"^return len\(self\._[a-z]+\)$")
                    if part.name == "__eq__":
                        self.assertTrue(ast.unparse(rows[0]).startswith(f"return isinstance(other, {node.name}) and "))
                    for call in ast.walk(rows[0]):
                        if isinstance(call, ast.Call):
                            self.assertIn(ast.unparse(call.func), ("len", "isinstance", "is_name"))

    def test_exits(self):
        for name, node in classes():
            for part in methods_of(node):
                if part.name == "__exit__":
                    self.assertEqual([given.arg for given in part.args.args], ["self", "kind", "value", "trace"])
                    first, *rest = [ast.unparse(row) for row in part.body]
                    self.assertRegex(first, r"^([a-z]+) = self\._\1$")
                    for row in rest:
                        self.assertRegex(row, r"^[a-z]+\._[a-z]+ = self\._[a-z]+$")


if __name__ == "__main__":
    unittest.main()
