"""Rules of the language subset that can be read off the source of the package."""

import ast
import builtins
import os
import unittest

ROOT = os.path.dirname(os.path.dirname(os.path.abspath(__file__)))
PACKAGE = "pureladders"
LIBRARY = {
    "math": {"gcd", "lcm", "isqrt", "comb", "perm", "factorial"},
    "heapq": {"heappush", "heappop", "heapify", "heapreplace", "heappushpop"},
    "collections": {"defaultdict"},
}
BUILTINS = set(
    "len range enumerate zip min max sum abs sorted reversed int str bool bytes list tuple dict set "
    "isinstance ord repr any all divmod pow iter next Exception ValueError TypeError KeyError IndexError "
    "LookupError ZeroDivisionError ArithmeticError OverflowError RuntimeError NotImplementedError "
    "NotImplemented property staticmethod classmethod super map".split())
METHODS = set(
    "append clear copy count endswith extend find get index insert isalnum isalpha isdigit islower isspace "
    "isupper items join keys ljust lower lstrip partition pop remove replace reverse rfind rjust rpartition "
    "rsplit rstrip setdefault split splitlines startswith strip update upper values zfill bit_length "
    "add discard title capitalize swapcase casefold center expandtabs removeprefix removesuffix rindex isascii "
    "isdecimal isnumeric istitle isidentifier isprintable".split())
DUNDERS = set(
    "__init__ __eq__ __repr__ __str__ __len__ __iter__ __call__ __lt__ __le__ __gt__ __ge__ __ne__ __add__ "
    "__sub__ __mul__ __neg__ __bool__ __contains__ __getitem__ __setitem__".split())
BARRED = set(
    "register mro elements open input law version_info with_traceback add_note attrgetter breakpoint builtins "
    "compile copyright credits delattr dir eval exec exit gc globals help id importlib license locals "
    "methodcaller os quit setattr type vars sys".split())
WORDS = set(
    "type typing typing_extensions enum Enum IntEnum StrEnum Flag IntFlag Generic Protocol ABC ABCMeta "
    "namedtuple NamedTuple TypedDict TYPE_CHECKING abstractmethod".split())
AT_ONCE = {"list", "tuple", "dict", "sorted", "sum", "any", "all", "enumerate", "zip", "min", "max"}
VIEWS = {"zip", "enumerate", "reversed", "map", "range"}


def package_files():
    for folder, folders, names in os.walk(os.path.join(ROOT, PACKAGE)):
        folders[:] = sorted(name for name in folders if name != "__pycache__")
        for name in sorted(names):
            yield os.path.join(folder, name)


def module_name(path):
    parts = os.path.relpath(path, ROOT)[:-3].split(os.sep)
    return ".".join(parts[:-1] if parts[-1] == "__init__" else parts)


class Source:
    def __init__(self, path):
        self.path = os.path.relpath(path, ROOT)
        with open(path, encoding="utf-8") as handle:
            self.text = handle.read()
        self.tree = ast.parse(self.text)
        self.parents = {}
        for node in ast.walk(self.tree):
            for child in ast.iter_child_nodes(node):
                self.parents[child] = node

    def functions(self):
        return [node for node in ast.walk(self.tree) if isinstance(node, ast.FunctionDef)]

    def spot(self, node):
        return f"{self.path}:{node.lineno}"


SOURCES = [Source(path) for path in package_files() if path.endswith(".py")]
BY_MODULE = {module_name(os.path.join(ROOT, source.path)): source for source in SOURCES}


def every(kind):
    for source in SOURCES:
        for node in ast.walk(source.tree):
            if isinstance(node, kind):
                yield source, node


def own_names(kind):
    return {node.name for _, node in every(kind)}


def is_generator(node):
    return any(isinstance(inner, (ast.Yield, ast.YieldFrom)) for inner in ast.walk(node))


class LanguageTest(unittest.TestCase):
    def refuse(self, found):
        self.assertEqual(found, [])

    def test_files_and_characters(self):
        paths = list(package_files())
        self.assertLessEqual(len(paths), 100)
        for path in paths:
            name = os.path.basename(path)
            self.assertTrue(name.endswith(".py") and name[:-3].replace("_", "a").isalnum() and name.islower(), path)
            self.assertFalse(os.path.isdir(path[:-3]), path)
            self.assertTrue(os.path.exists(os.path.join(os.path.dirname(path), "__init__.py")), path)
            self.assertNotIn(name[:-3], set(dir(builtins)) | WORDS | BARRED | {"test", "tests", "site", "heapq", "math"})
        for source in SOURCES:
            self.assertTrue(all(letter == "\n" or " " <= letter <= "~" for letter in source.text), source.path)

    def test_sizes(self):
        for source in SOURCES:
            lines = source.text.split("\n")
            self.assertLessEqual(len(lines), 400, source.path)
            self.assertLessEqual(max(map(len, lines)), 120, source.path)
            for node in source.functions():
                self.assertLessEqual(node.end_lineno - node.lineno + 1, 40, source.spot(node))

    def test_imports(self):
        for source, node in every((ast.Import, ast.ImportFrom)):
            self.assertIsInstance(node, ast.ImportFrom, source.spot(node))
            self.assertIn(node, source.tree.body, source.spot(node))
            self.assertEqual(node.level, 0, source.spot(node))
            for name in node.names:
                self.assertIsNone(name.asname, source.spot(node))
                if node.module in LIBRARY:
                    self.assertIn(name.name, LIBRARY[node.module], source.spot(node))
                else:
                    self.assertIn(name.name, self.bound_here(BY_MODULE[node.module]), source.spot(node))

    def bound_here(self, source):
        names = []
        for node in source.tree.body:
            if isinstance(node, (ast.FunctionDef, ast.ClassDef)):
                names.append(node.name)
            elif isinstance(node, ast.Assign):
                names += [target.id for target in node.targets]
        return names

    def test_each_import_is_used(self):
        for source in SOURCES:
            used = {node.id for node in ast.walk(source.tree) if isinstance(node, ast.Name)}
            for node in source.tree.body:
                if isinstance(node, ast.ImportFrom):
                    self.assertEqual([name.name for name in node.names if name.name not in used], [], source.path)

    def test_no_circles_of_imports(self):
        needs = {}
        for name, source in BY_MODULE.items():
            froms = [node.module for node in ast.walk(source.tree) if isinstance(node, ast.ImportFrom)]
            needs[name] = {module for module in froms if module in BY_MODULE}
        while needs:
            free = [name for name in needs if not needs[name] & set(needs)]
            self.assertTrue(free, sorted(needs))
            for name in free:
                del needs[name]

    def test_module_level(self):
        for source in SOURCES:
            names = self.bound_here(source)
            names += [name.name for node in source.tree.body if isinstance(node, ast.ImportFrom) for name in node.names]
            self.assertEqual(len(names), len(set(names)), source.path)
            for node in source.tree.body:
                docstring = isinstance(node, ast.Expr) and isinstance(node.value, ast.Constant)
                plain = (ast.ImportFrom, ast.FunctionDef, ast.ClassDef, ast.Assign)
                self.assertTrue(docstring or isinstance(node, plain), source.spot(node))
                if isinstance(node, ast.Assign):
                    self.assertEqual(len(node.targets), 1, source.spot(node))
                    self.assertFalse([n for n in ast.walk(node.value) if isinstance(n, (ast.Call, ast.Set))])

    def test_statements_and_expressions(self):
        barred = (
            ast.Global, ast.AsyncFunctionDef, ast.AsyncFor, ast.AsyncWith, ast.Await, ast.Try, ast.AnnAssign,
            ast.GeneratorExp, ast.Div, ast.MatMult)
        self.refuse([source.spot(node) for source, node in every(barred)])

    def test_constants(self):
        for source, node in every(ast.Constant):
            self.assertNotIsInstance(node.value, (float, complex, bytes), source.spot(node))
            if isinstance(node.value, str):
                self.assertNotIn("%", node.value, source.spot(node))
                self.assertFalse(node.value.endswith(("._", ".__")), source.spot(node))
                self.assertNotIn("__", node.value, source.spot(node))

    def test_powers_have_literal_exponents(self):
        for source, node in every(ast.BinOp):
            if isinstance(node.op, ast.Pow):
                self.assertIsInstance(node.right, ast.Constant, source.spot(node))
                self.assertIn(node.right.value, range(65), source.spot(node))

    def test_is_stands_beside_none_true_false(self):
        for source, node in every(ast.Compare):
            for op, right in zip(node.ops, node.comparators):
                if isinstance(op, (ast.Is, ast.IsNot)):
                    self.assertIsInstance(right, ast.Constant, source.spot(node))
                    self.assertIn(right.value, (None, True, False), source.spot(node))

    def test_builtins(self):
        mine = own_names((ast.FunctionDef, ast.ClassDef))
        for source, node in every(ast.Name):
            if hasattr(builtins, node.id):
                self.assertIn(node.id, BUILTINS, source.spot(node))
                self.assertIsInstance(node.ctx, ast.Load, source.spot(node))
            self.assertNotIn(node.id, BARRED | WORDS, source.spot(node))
        for source, node in every(ast.arg):
            self.assertFalse(hasattr(builtins, node.arg), source.spot(node))
            self.assertNotIn(node.arg, BARRED | WORDS, source.spot(node))
        for name in mine:
            self.assertNotIn(name, BARRED | WORDS)
            self.assertTrue(name in DUNDERS or not (name.startswith("__") or hasattr(builtins, name)), name)

    def test_barred_words(self):
        for source in SOURCES:
            for node in ast.walk(source.tree):
                names = [getattr(node, key, "") for key in ("id", "attr", "arg", "name", "module")]
                for name in names:
                    self.assertNotIn(name, WORDS, source.path)
            # The last three are barred since a class has items.
            for word in ("dataclass", "overload", "contextmanager", "_wall", "_WallAttr", "(type)", "Meta", "metaclass="):
                self.assertNotIn(word, source.text, source.path)

    def test_methods_of_values(self):
        mine = own_names(ast.FunctionDef)
        for source, node in every(ast.Call):
            if isinstance(node.func, ast.Attribute):
                self.assertIn(node.func.attr, METHODS | mine, source.spot(node))
                if node.func.attr in METHODS - mine:
                    self.assertEqual(node.keywords, [], source.spot(node))

    def test_decorators(self):
        for source, node in every(ast.FunctionDef):
            for decorator in node.decorator_list:
                self.assertIn(decorator.id, ("property", "staticmethod", "classmethod"), source.spot(node))
                self.assertIsInstance(source.parents[node], ast.ClassDef, source.spot(node))
        self.refuse([source.spot(node) for source, node in every(ast.ClassDef) if node.decorator_list])

    def test_local_names(self):
        for source in SOURCES:
            taken = [node.name for node in source.tree.body if isinstance(node, (ast.ClassDef, ast.FunctionDef))]
            taken += [name.name for node in source.tree.body if isinstance(node, ast.ImportFrom) for name in node.names]
            for node in source.functions():
                local = [n for n in ast.walk(node) if isinstance(n, ast.Name) and isinstance(n.ctx, ast.Store)]
                found = [n.id for n in local] + [n.arg for n in ast.walk(node) if isinstance(n, ast.arg)]
                self.assertEqual(sorted(set(found) & set(taken)), [], source.spot(node))

    def test_errors_are_made_where_they_are_raised(self):
        classes = own_names(ast.ClassDef) | {"TypeError"}
        for source, node in every(ast.Raise):
            self.assertIsInstance(node.exc, ast.Call, source.spot(node))
            self.assertIn(node.exc.func.id, classes, source.spot(node))
            self.assertEqual(node.exc.keywords, [], source.spot(node))

    def test_views_are_iterated_at_once(self):
        generators = {node.name for source in SOURCES for node in source.functions() if is_generator(node)}
        for source, node in every(ast.Call):
            name = node.func.id if isinstance(node.func, ast.Name) else node.func.attr
            if name in VIEWS | generators | {"items", "keys", "values"}:
                self.assertTrue(self.is_iterated(source, node), source.spot(node))

    def is_iterated(self, source, node):
        parent = source.parents[node]
        if isinstance(parent, (ast.For, ast.comprehension)):
            return parent.iter is node
        if isinstance(parent, ast.Compare) and isinstance(parent.ops[0], (ast.In, ast.NotIn)):
            return node.func.id == "range"
        if isinstance(parent, ast.Call) and isinstance(parent.func, ast.Name):
            name = parent.func.id
            return name in AT_ONCE or (name == "reversed" and getattr(node.func, "id", "") == "range")
        return False

    def test_sets_are_sorted_measured_or_asked(self):
        for source, node in every((ast.Set, ast.SetComp, ast.Call)):
            if isinstance(node, ast.Call) and getattr(node.func, "id", "") not in ("set", "frozenset"):
                continue
            if isinstance(node, ast.Set):
                numbers = [n for n in node.elts if isinstance(n, ast.Constant) and isinstance(n.value, int)]
                self.assertLessEqual(len(numbers), 2, source.spot(node))
            self.assertTrue(self.is_set_use(source, node), source.spot(node))

    def is_set_use(self, source, node):
        parent = source.parents[node]
        while isinstance(parent, ast.BinOp):
            parent = source.parents[parent]
        if isinstance(parent, ast.Call):
            return getattr(parent.func, "id", "") in ("sorted", "len") and not parent.keywords
        if isinstance(parent, ast.Assign):
            return isinstance(parent.targets[0], ast.Name) and not isinstance(node, ast.BinOp)
        return isinstance(parent, ast.Compare)

    def test_texts_end_in_a_return(self):
        for source in SOURCES:
            for node in source.functions():
                if node.name in ("__str__", "__repr__", "__len__"):
                    self.assertIsInstance(node.body[-1], ast.Return, source.spot(node))
                if node.name in ("__str__", "__repr__"):
                    value = node.body[-1].value
                    text = isinstance(value, ast.JoinedStr) or getattr(value.func, "id", "") in ("str", "repr")
                    self.assertTrue(text, source.spot(node))

    def test_builtins_take_no_other_keywords(self):
        allowed = {"sorted": {"key", "reverse"}, "min": {"key", "default"}, "max": {"key", "default"},
                   "sum": {"start"}, "enumerate": {"start"}, "zip": {"strict"}}
        for source, node in every(ast.Call):
            if isinstance(node.func, ast.Name) and hasattr(builtins, node.func.id):
                names = {keyword.arg for keyword in node.keywords}
                self.assertLessEqual(names, allowed.get(node.func.id, set()), source.spot(node))

    def test_names_are_defined_where_the_document_lists_them(self):
        for name, listed in INTERFACE.items():
            self.assertLessEqual(set(listed.split()), set(self.bound_here(BY_MODULE[name])), name)

    def test_methods_are_defined_in_their_classes(self):
        for _, node in every(ast.ClassDef):
            if node.name in METHODS_OF_CLASSES:
                found = {inner.name for inner in node.body if isinstance(inner, ast.FunctionDef)}
                self.assertLessEqual(set(METHODS_OF_CLASSES[node.name].split()), found, node.name)

    def test_operators_change_only_what_they_made(self):
        """Behind an operator, a property or a text nothing but new lists and dicts is changed."""
        functions = {}
        for source in SOURCES:
            for node in source.functions():
                functions.setdefault(node.name, []).append((source, node))
        waiting = [node.name for _, node in every(ast.FunctionDef)
                   if node.name in DUNDERS - {"__init__", "__iter__"} or node.decorator_list]
        seen = set()
        while waiting:
            name = waiting.pop()
            if name in seen or name in ("read", "__init__"):
                continue
            seen.add(name)
            for source, node in functions[name]:
                self.assertEqual(self.changed_from_outside(node), [], source.spot(node))
                for inner in ast.walk(node):
                    if isinstance(inner, ast.Call) and getattr(inner.func, "id", "") in functions:
                        waiting.append(inner.func.id)

    def changed_from_outside(self, node):
        """The names of what a function changes without having made it by a literal or a call of its class."""
        made = set()
        for inner in ast.walk(node):
            if isinstance(inner, ast.Assign) and isinstance(inner.targets[0], ast.Name):
                value = inner.value
                plain = isinstance(value, (ast.List, ast.Dict, ast.ListComp, ast.DictComp))
                called = isinstance(value, ast.Call) and getattr(value.func, "id", "") in ("list", "Lot", "Table")
                if plain or called:
                    made.add(inner.targets[0].id)
        changed = []
        for inner in ast.walk(node):
            if isinstance(inner, (ast.Attribute, ast.Subscript)) and isinstance(inner.ctx, (ast.Store, ast.Del)):
                changed.append(ast.unparse(inner.value))
            if isinstance(inner, ast.Call) and getattr(inner.func, "attr", "") in CHANGING:
                changed.append(ast.unparse(inner.func.value))
        return [name for name in changed if name not in made]


INTERFACE = {
    "pureladders.errors": "LadderError InvalidProduct InvalidLot InvalidFamily InvalidTable InvalidLadder "
                          "InvalidDegrees InvalidRow InvalidOperation ParseError InvalidNumber UnknownName "
                          "NothingToUndo TooMany Refused",
    "pureladders.base.integers": "MAX_ASKED MAX_TOP is_prime binomial common_divisor",
    "pureladders.lot.products": "MAX_LETTERS MAX_EXPONENT MAX_LISTED_DEGREE degree_of is_product does_divide "
                                "multiple_of divisor_of product_times quotient_of all_products",
    "pureladders.lot.lots": "MAX_MEMBER_EXPONENT MAX_MEMBERS MAX_PASSED MAX_POWER MAX_MULTIPLES Lot multiples",
    "pureladders.base.ranks": "MAX_SIDE MAX_FIELD rank_of divisors_of solved is_solved",
    "pureladders.row.counts": "MOST_COUNTED MOST_FAR MOST_LISTED_LETTERS MOST_LISTED_DEGREE numerator left_counts "
                              "count_at left_products dimension weight steady_row steady_degree free_set is_free_set",
    "pureladders.table.tables": "MAX_STEP MAX_PLACE Table",
    "pureladders.stable.lots": "is_stable is_strongly_stable unstable is_unstable split closing makers "
                               "table_by_letters",
    "pureladders.row.growth": "MAX_DEGREE MAX_TOLD MAX_ROW MOST_FIRST_LETTERS word_place product_at first_products "
                              "shares growth_bound row_bar first_lot is_met met_from first_lot_like is_first_lot",
    "pureladders.part.parts": "MAX_WORK part part_holes fine_table table_of",
    "pureladders.part.members": "MAX_MEMBERS members_part members_holes table_by_members scarf is_scarf",
    "pureladders.rung.ladders": "MAX_STEP MAX_RUNGS MAX_TAYLOR MAX_STRANDS Ladder told_lot ladder_fault is_ladder "
                                "unit_of is_least cut cut_down taylor least_ladder",
    "pureladders.family.families": "MAX_CORNERS MAX_POLARIZED Family family_of lot_of table_by_sets polarized",
    "pureladders.family.links": "dual dual_lot is_whole hole_below is_hole_below table_by_links",
    "pureladders.straight.orders": "MAX_ORDERED is_straight straight_bar letter_order is_letter_order "
                                   "quotient_letters table_by_order",
    "pureladders.straight.pairs": "pair_web web_paper is_web_paper",
    "pureladders.pure.degrees": "MAX_STEP MAX_PLACE pure_table whole_pure is_below pure_degrees",
    "pureladders.pure.chains": "MAX_CHAIN taking_off table_of_chain is_chain",
    "pureladders.pure.weights": "weights_against is_weights weighed pure_sums",
    "pureladders.pure.sums": "MAX_JOINED lower_of upper_of are_one_chain joined_chain chain_of_sum scaled_chain "
                             "neighbours is_neighbours taken",
    "pureladders.join.joined": "MAX_JOINED side_by_side meet_apart table_product table_apart cut_at cone "
                               "cone_neighbours",
    "pureladders.field.fields": "boundary_divisors part_divisors dividing_primes is_same_everywhere "
                                "field_neighbours half_sphere",
    "pureladders.text.texts": "write read",
    "pureladders.desk.desk": "MAX_NAME MAX_SAID Desk",
    "pureladders.pure.tells": "table_numerator codimension weight_of regularity ends weight_bounds depth_of",
}
METHODS_OF_CLASSES = {
    "Lot": "__init__ read letters members degrees is_all is_squarefree __add__ __mul__ meet quotient power "
           "__contains__ __eq__ __bool__ __len__ __iter__ __str__",
    "Table": "__init__ read entries bottom end at __add__ __sub__ __neg__ times __eq__ __bool__ __str__",
    "Desk": "__init__ letters lots sayings past do say unsay is_true undo twin __contains__ __getitem__ __len__ "
            "__iter__ __eq__ __str__",
    "Ladder": "__init__ letters rungs maps table strand __eq__ __len__ __str__",
    "Family": "__init__ corners members dimension euler restricted link holes __contains__ __eq__ __bool__ __len__ "
              "__iter__ __str__",
}
CHANGING = set("append clear extend insert pop remove reverse setdefault update add discard".split())


if __name__ == "__main__":
    unittest.main()
