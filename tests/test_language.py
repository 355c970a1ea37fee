"""The rules of ../shared/LANGUAGE.md that a look at the code of the package can tell.

The package uses less than the rules let: no annotations, lambdas, generators, nested
functions, stars or library imports. So these are barred here altogether.
"""

import ast
import builtins
import os
import re
import unittest

ROOT = os.path.join(os.path.dirname(os.path.dirname(os.path.abspath(__file__))), "timesthrough")
BUILTINS = set(dir(builtins))
USED_BUILTINS = set(
    "len range enumerate zip min max sum abs sorted reversed int str bool list tuple dict set isinstance repr any all "
    "divmod iter ValueError TypeError KeyError IndexError LookupError ArithmeticError OverflowError NotImplemented".split())
METHODS = set(
    "append clear copy count endswith extend find get index insert isalnum isalpha isdigit islower isspace isupper items "
    "join keys lower lstrip partition pop remove replace reverse rfind rstrip setdefault split startswith strip update "
    "upper values".split())
DOUBLE = {"__init__", "__eq__", "__str__", "__len__", "__bool__", "__add__", "__sub__", "__mul__", "__neg__",
          "__contains__", "__iter__"}
BARRED_NAMES = set(
    "register mro elements open input law version_info with_traceback add_note attrgetter breakpoint builtins compile "
    "copyright credits delattr dir eval exec exit gc getattr globals hasattr help id importlib license locals "
    "methodcaller os quit setattr super type vars sys".split())
BARRED_WORDS = re.compile(
    r"\b(type|typing|typing_extensions|enum|Enum|IntEnum|StrEnum|Flag|IntFlag|Generic|Protocol|ABC|ABCMeta|namedtuple|"
    r"NamedTuple|TypedDict|TYPE_CHECKING|abstractmethod)\b|dataclass|overload|contextmanager|_wall|_WallAttr")
BARRED_NODES = (
    ast.Import, ast.Global, ast.Nonlocal, ast.AsyncFunctionDef, ast.Await, ast.AsyncFor, ast.AsyncWith, ast.Lambda,
    ast.GeneratorExp, ast.Yield, ast.YieldFrom, ast.AnnAssign, ast.NamedExpr, ast.Starred, ast.With, ast.Delete,
    ast.Set, ast.SetComp, ast.Match, ast.Div, ast.Assert)


def files():
    found = []
    for folder, folders, names in os.walk(ROOT):
        folders[:] = sorted(name for name in folders if name != "__pycache__")
        found.extend(os.path.join(folder, name) for name in sorted(names))
    return found


def module_name(path):
    parts = os.path.relpath(path, os.path.dirname(ROOT))[:-3].split(os.sep)
    return ".".join(parts[:-1] if parts[-1] == "__init__" else parts)


def bound(tree):
    """The names that a file binds at module level, one for each time."""
    names = []
    for node in tree.body:
        if isinstance(node, (ast.FunctionDef, ast.ClassDef)):
            names.append(node.name)
        elif isinstance(node, ast.Assign):
            names.extend(target.id for target in node.targets)
        elif isinstance(node, ast.ImportFrom):
            names.extend(alias.name for alias in node.names)
    return names


MODIFYING = set("append clear extend insert pop remove reverse setdefault sort update".split())
PASSING = set("enumerate zip reversed".split())


def places(node):
    """The places whose value an expression may be itself: names, fields of any object, items."""
    if isinstance(node, ast.IfExp):
        return places(node.body) | places(node.orelse)
    if isinstance(node, ast.BoolOp):
        return set().union(*(places(value) for value in node.values))
    if isinstance(node, ast.Attribute):
        return {"." + node.attr}
    return {ast.unparse(node)} if isinstance(node, (ast.Name, ast.Subscript)) else set()


def walked_places(node):
    """The places that a loop over this expression walks."""
    if isinstance(node, ast.Call):
        if isinstance(node.func, ast.Name) and node.func.id in PASSING:
            return set().union(*(walked_places(part) for part in node.args))
        if isinstance(node.func, ast.Attribute) and node.func.attr in ("items", "keys", "values"):
            return places(node.func.value)
    return places(node)


def same_places(function):
    """For each place of a function all that an assignment, at any time, may make the same list."""
    groups = {}
    for node in ast.walk(function):
        pairs = []
        if isinstance(node, ast.Assign):
            for target in node.targets:
                if isinstance(target, ast.Tuple) and isinstance(node.value, ast.Tuple):
                    pairs.extend(zip(target.elts, node.value.elts))
                else:
                    pairs.append((target, node.value))
        for target, value in pairs:
            joined = places(target) | places(value)
            for place in list(joined):
                joined |= groups.get(place, set())
            for place in joined:
                groups[place] = joined
    return groups


def changed_places(node):
    """The places whose lists a piece of code changes, each with its line."""
    for part in ast.walk(node):
        if isinstance(part, ast.Call) and isinstance(part.func, ast.Attribute) and part.func.attr in MODIFYING:
            yield from ((place, part.lineno) for place in places(part.func.value))
        elif isinstance(part, ast.Subscript) and not isinstance(part.ctx, ast.Load):
            yield from ((place, part.lineno) for place in places(part.value))
        elif isinstance(part, ast.AugAssign):
            yield from ((place, part.lineno) for place in places(part.target))


def changed_while_walked(function):
    """The lines that change what a loop or a comprehension around them walks (L23)."""
    groups = same_places(function)
    found = []
    for node in ast.walk(function):
        if isinstance(node, ast.For):
            walked, bodies = walked_places(node.iter), node.body
        elif isinstance(node, (ast.ListComp, ast.DictComp, ast.SetComp, ast.GeneratorExp)):
            walked, bodies = set().union(*(walked_places(part.iter) for part in node.generators)), [node]
        else:
            continue
        same = set().union(walked, *(groups.get(place, set()) for place in walked))
        found.extend(line for body in bodies for place, line in changed_places(body) if place in same)
    return sorted(set(found))


def is_docstring(node):
    return isinstance(node, ast.Expr) and isinstance(node.value, ast.Constant) and isinstance(node.value.value, str)


class Language(unittest.TestCase):

    @classmethod
    def setUpClass(cls):
        cls.texts = {}
        for path in files():
            with open(path, encoding="utf-8", newline="") as file:
                cls.texts[path] = file.read()
        cls.trees = {path: ast.parse(text) for path, text in cls.texts.items()}
        cls.modules = {module_name(path): tree for path, tree in cls.trees.items()}
        for tree in cls.trees.values():
            for node in ast.walk(tree):
                for child in ast.iter_child_nodes(node):
                    child.parent = node

    def each(self, *kinds):
        for path, tree in self.trees.items():
            for node in ast.walk(tree):
                if isinstance(node, kinds):
                    yield node, f"{path}:{getattr(node, 'lineno', 0)}"

    def test_files(self):
        self.assertTrue(len(self.texts) <= 100)
        for path, text in self.texts.items():
            name = os.path.basename(path)
            self.assertTrue(re.fullmatch(r"[a-z][a-z0-9_]*\.py|__init__\.py", name), path)
            self.assertIn(os.path.join(os.path.dirname(path), "__init__.py"), self.texts)
            self.assertFalse(os.path.isdir(path[:-3]), path)
            self.assertTrue(all(letter == "\n" or " " <= letter <= "~" for letter in text), path)
            lines = text.split("\n")
            self.assertTrue(len(lines) <= 399 and max(len(line) for line in lines) <= 120, path)
            self.assertNotIn("_wall", text)

    def test_module_level(self):
        for path, tree in self.trees.items():
            for at, node in enumerate(tree.body):
                good = isinstance(node, (ast.FunctionDef, ast.ClassDef, ast.ImportFrom)) or at == 0 and is_docstring(node)
                if isinstance(node, ast.Assign):
                    good = len(node.targets) == 1 and isinstance(node.targets[0], ast.Name)
                    parts = [part for part in ast.walk(node.value) if part is not node.value]
                    good = good and not isinstance(node.value, (ast.Call, ast.Name, ast.List))
                    good = good and not any(isinstance(part, (ast.Call, ast.Name, ast.List, ast.Dict)) for part in parts)
                self.assertTrue(good, f"{path}:{node.lineno}")
            names = bound(tree)
            self.assertEqual(len(names), len(set(names)), path)

    def test_imports(self):
        uses = {}
        for name, tree in self.modules.items():
            uses[name] = []
            read = {node.id for node in ast.walk(tree) if isinstance(node, ast.Name)}
            for node in ast.walk(tree):
                if isinstance(node, ast.ImportFrom):
                    self.assertEqual(node.level, 0)
                    source = self.modules[node.module]
                    own = [part.name for part in source.body if isinstance(part, (ast.FunctionDef, ast.ClassDef))]
                    own += [part.targets[0].id for part in source.body if isinstance(part, ast.Assign)]
                    for alias in node.names:
                        self.assertIsNone(alias.asname)
                        self.assertIn(alias.name, own, name)
                        self.assertIn(alias.name, read, name)
                        self.assertFalse(alias.name.startswith("_"), alias.name)
                    uses[name].append(node.module)
        done = []
        while len(done) < len(uses):
            ready = [name for name in uses if name not in done and all(other in done for other in uses[name])]
            self.assertTrue(ready, "files that import from each other")
            done.extend(ready)

    def test_barred(self):
        for node, spot in self.each(*BARRED_NODES):
            self.fail(f"{spot}: {node.__class__.__name__}")
        for node, spot in self.each(ast.Constant):
            self.assertNotIsInstance(node.value, (float, complex, bytes), spot)
            if isinstance(node.value, str):
                self.assertNotIn("%", node.value, spot)
                if not is_docstring(node.parent):
                    self.assertFalse(BARRED_WORDS.search(node.value) or "__" in node.value, spot)
        for node, spot in self.each(ast.BinOp):
            if isinstance(node.op, ast.Pow):
                self.assertTrue(isinstance(node.right, ast.Constant) and 0 <= node.right.value <= 64, spot)
        for node, spot in self.each(ast.Compare):
            for op, right in zip(node.ops, node.comparators):
                if isinstance(op, (ast.Is, ast.IsNot)):
                    self.assertTrue(isinstance(right, ast.Constant) and right.value in (None, True, False), spot)

    def test_functions(self):
        for node, spot in self.each(ast.FunctionDef):
            self.assertTrue(node.end_lineno - node.lineno < 40, spot)
            self.assertIsInstance(node.parent, (ast.Module, ast.ClassDef), spot)
            arguments = node.args
            self.assertFalse(arguments.vararg or arguments.kwarg or arguments.kwonlyargs or arguments.posonlyargs, spot)
            self.assertFalse(node.returns or any(argument.annotation for argument in arguments.args), spot)
            for decorator in node.decorator_list:
                self.assertTrue(isinstance(decorator, ast.Name) and decorator.id == "property", spot)
            if node.name.startswith("__"):
                self.assertIn(node.name, DOUBLE, spot)
        for node, spot in self.each(ast.ClassDef):
            self.assertFalse(node.decorator_list or node.keywords, spot)
            self.assertTrue(all(isinstance(part, ast.FunctionDef) or is_docstring(part) for part in node.body), spot)

    def test_names(self):
        for node, spot in self.each(ast.Name):
            if isinstance(node.ctx, ast.Store):
                self.assertFalse(node.id in BUILTINS | BARRED_NAMES or node.id.startswith("__"), spot)
            elif node.id in BUILTINS:
                decorator = isinstance(node.parent, ast.FunctionDef) and node.id == "property"
                self.assertTrue(decorator or node.id in USED_BUILTINS, f"{spot} {node.id}")
            self.assertFalse(node.id == "_" and isinstance(node.ctx, ast.Load), spot)
        for node, spot in self.each(ast.arg):
            self.assertNotIn(node.arg, BUILTINS | BARRED_NAMES, spot)
        for node, spot in self.each(ast.FunctionDef, ast.ClassDef):
            self.assertNotIn(node.name, BUILTINS | BARRED_NAMES, spot)

    def test_names_of_imports_and_classes(self):
        for path, tree in self.trees.items():
            taken = {alias.name for node in tree.body if isinstance(node, ast.ImportFrom) for alias in node.names}
            taken |= {node.name for node in tree.body if isinstance(node, ast.ClassDef)}
            for node in ast.walk(tree):
                if isinstance(node, ast.arg):
                    self.assertNotIn(node.arg, taken, f"{path}:{node.lineno}")
                if isinstance(node, ast.Name) and isinstance(node.ctx, ast.Store):
                    self.assertNotIn(node.id, taken, f"{path}:{node.lineno}")

    def test_methods_and_attributes(self):
        own = {node.name for node, _ in self.each(ast.FunctionDef) if isinstance(node.parent, ast.ClassDef)}
        stored = {node.attr for node, _ in self.each(ast.Attribute) if isinstance(node.ctx, ast.Store)}
        for node, spot in self.each(ast.Attribute):
            called = isinstance(node.parent, ast.Call) and node.parent.func is node
            self.assertIn(node.attr, own | METHODS if called else own | stored, spot)
        self.assertFalse(stored & METHODS)
        self.assertFalse(stored & own)

    def test_errors(self):
        own = {node.name for node in self.modules["timesthrough.errors"].body if isinstance(node, ast.ClassDef)}
        for node, spot in self.each(ast.Raise):
            self.assertTrue(isinstance(node.exc, ast.Call) and node.exc.func.id in own and node.cause is None, spot)
            self.assertEqual((len(node.exc.args), len(node.exc.keywords)), (1, 0), spot)
        for node, spot in self.each(ast.ExceptHandler):
            kinds = node.type.elts if isinstance(node.type, ast.Tuple) else [node.type]
            self.assertTrue(all(isinstance(kind, ast.Name) and kind.id in own for kind in kinds), spot)
            if node.name is not None:
                read = [part for part in ast.walk(node) if isinstance(part, ast.Name) and part.id == node.name]
                self.assertTrue(all(isinstance(part.parent, ast.Attribute) for part in read), spot)

    def test_iterated_at_once(self):
        iterating = {"list", "tuple", "dict", "sorted", "sum", "any", "all", "enumerate", "zip", "min", "max"}
        for node, spot in self.each(ast.Call):
            name = getattr(node.func, "id", getattr(node.func, "attr", None))
            if name in ("zip", "enumerate", "range", "reversed", "items", "keys", "values"):
                looped = getattr(node.parent, "iter", None) is node
                called = isinstance(node.parent, ast.Call) and getattr(node.parent.func, "id", None) in iterating
                self.assertTrue(looped or called, spot)
            if name == "set":
                self.assertIn(getattr(node.parent.func, "id", None), ("len", "sorted"), spot)
            for keyword in node.keywords:
                self.assertEqual((name, keyword.arg), ("sorted", "reverse"), spot)

    def test_what_a_loop_walks_is_not_changed_in_it(self):
        for node, spot in self.each(ast.FunctionDef):
            self.assertEqual(changed_while_walked(node), [], spot)

    def test_the_look_at_loops_sees_changes(self):
        loops = {
            "for x in xs:\n  xs.append(x)": [2],
            "for x in xs:\n  ys.append(x)": [],
            "ys = xs\nfor x in xs:\n  ys.append(x)": [3],
            "last = [0]\nwhile last:\n  new = []\n  for x in last:\n    new.append(x)\n  last = new": [5],
            "last = [0]\nwhile last:\n  new = []\n  for x in list(last):\n    new.append(x)\n  last = new": [],
            "for k, x in enumerate(self.rows):\n  other.rows[k] = x": [2],
            "for k, x in (d if c else e).items():\n  e.pop(k)": [2],
            "ys = xs or zs\nfor x in ys:\n  zs += [x]": [3],
            "a, b = b, c\nfor x in a:\n  c.insert(0, x)": [3],
            "ys = [xs.pop() for x in xs]": [1],
        }
        for text, lines in loops.items():
            self.assertEqual(changed_while_walked(ast.parse(text)), lines, text)

    def test_each_interface_name_stands_in_its_file(self):
        told = {
            "timesthrough.errors": "ThroughError InvalidRow InvalidWord InvalidMap InvalidTable InvalidPoints InvalidForm "
                "InvalidLot InvalidName InvalidWeights InvalidOperation ParseError InvalidNumber UnknownName NothingToUndo "
                "TooMany Refused",
            "timesthrough.base.rests": "LEAST_PRIME MOST_PRIME MAX_SIDE is_prime is_table rank reduced kernel solution "
                "goal_bar is_goal_bar",
            "timesthrough.plane.points": "MAX_POINTS is_point are_points point_of line_through are_in_line are_on_conic "
                "is_let",
            "timesthrough.plane.forms": "MAX_DEGREE MAX_CONDITIONS Form conditions curves count_at",
            "timesthrough.rows.rows": "LEAST_POINTS MOST_POINTS MOST_DIGITS is_row cubic line_row point_row product square "
                "with_cubic counting genus terms_of conditions_of added less multiplied",
            "timesthrough.rows.moves": "MAX_WORD is_word undone moved map_of is_map moved_by joined back acts_alike",
            "timesthrough.count.steps": "MAX_STEPS is_standard is_settled settled settling steps is_steps walked",
            "timesthrough.count.counts": "count has_curves bar is_bar shows_no_more",
            "timesthrough.rows.exceptional": "is_exceptional exceptional_rows word_to meetings met_by",
            "timesthrough.count.parts": "parts is_parts met_below clash surplus are_independent",
            "timesthrough.count.free": "is_free free_word is_free_word met is_met is_one_curve pencil_of has_base_point",
            "timesthrough.mirrors.roots": "MAX_LETTERS is_root is_positive roots turned root_word simple_of word_of "
                "turned_roots length least_simple passed is_least group_order",
            "timesthrough.mirrors.led": "led does_lead parting keepers keeper_order through_keepers is_through_keepers "
                "how_many led_rows",
            "timesthrough.nine.lattice": "MOST_NORM MOST_LED is_lattice_row norm lattice_rows unfolded folded_row "
                "exceptional_of lattice_of shifted shift_word divisor end_of led_nine are_led_nine",
            "timesthrough.lots.apart": "are_apart kind_of further to_points to_rulings line_of rulings_of lots_count "
                "whole_lots blown_down blown_up",
            "timesthrough.lots.names": "is_renaming renaming_of names_word names_bar is_names_bar renaming_by third "
                "threes threes_of other_half sixes partner pairs",
            "timesthrough.change.changes": "is_change_row change_word change_map change_rows",
            "timesthrough.change.moved": "turned_points turned_form",
            "timesthrough.share.shares": "least_share free_share least_degree least_free_degree share_paper "
                "is_share_paper free_bar is_free_bar",
            "timesthrough.share.rays": "rays stretch_rows stretch_counts are_free_together",
            "timesthrough.place.places": "Place",
            "timesthrough.place.counts": "is_clear clear_part steps_in is_steps_in count_in depends",
            "timesthrough.house.shelf": "MAX_NAMED MAX_CLAIMS MAX_EDITIONS MAX_EDITS is_question decide is_paper is_edit "
                "Shelf",
            "timesthrough.house.hands": "MAX_CALLS Hand",
            "timesthrough.house.log": "log_text read_log",
            "timesthrough.text.texts": "write_row write_word write_points read_row read_word read_points write_value "
                "read_value",
            "timesthrough.text.shell": "MAX_LINE Shell",
            "timesthrough.many.bounds": "FEWEST MOST_STEPS end_of_steps row_below is_square_barred row_above bounds "
                "is_led_to_point word_to_point",
        }
        for name, names in told.items():
            own = [node.name for node in self.modules[name].body if isinstance(node, (ast.FunctionDef, ast.ClassDef))]
            own += [node.targets[0].id for node in self.modules[name].body if isinstance(node, ast.Assign)]
            for asked in names.split():
                self.assertIn(asked, own, name)

    def test_each_method_stands_in_its_class(self):
        told = {
            "timesthrough.plane.forms Form": "prime degree terms at times_at __add__ __sub__ __mul__ __neg__ __bool__ "
                "__len__ __eq__ __str__",
            "timesthrough.place.places Place": "prime points roots bends staying curves kind parts_of __contains__ __len__ "
                "__iter__ __eq__ __str__",
            "timesthrough.house.shelf Shelf": "edit pin rows_at points_at standing editions claims fallen history twin "
                "__contains__ __len__ __eq__ __str__",
            "timesthrough.house.hands Hand": "base calls rows_now points_now change ask commit renew __len__ __eq__ "
                "__str__",
            "timesthrough.text.shell Shell": "said say run __str__",
        }
        for name, asked in told.items():
            module, kind = name.split()
            found = [node for node in self.modules[module].body if isinstance(node, ast.ClassDef) and node.name == kind]
            methods = [node.name for node in found[0].body if isinstance(node, ast.FunctionDef)]
            for method in ["__init__"] + asked.split():
                self.assertIn(method, methods)


if __name__ == "__main__":
    unittest.main()
