"""The form of the program: what can be seen of it without running it."""

import ast
import pathlib
import unittest

PACKAGE = pathlib.Path(__file__).resolve().parent.parent / "slipleaf"
BARRED = (
    ast.AsyncFunctionDef, ast.Global, ast.Set, ast.SetComp, ast.GeneratorExp, ast.Lambda, ast.AnnAssign, ast.Div,
)
CHANGING = (
    "add", "append", "clear", "discard", "extend", "insert", "pop", "remove", "reverse", "setdefault", "sort", "update",
)
VIEWS = ("items", "keys", "values")
INTERFACE = {
    "kinds": ("is_kind", "answers_of", "size_of", "is_answer", "is_content", "slips_between", "ticked"),
    "conditions": ("is_name", "is_full_name", "is_condition", "length_of", "names_in", "holds", "renamed"),
    "rounds": ("unrolled",),
    "forms": ("Form",),
    "records": ("record_of", "is_record", "asked_in", "failing_checks", "is_lawful", "person_of"),
    "writing": ("write_condition", "write_items", "write_form"),
    "reading": ("read_condition", "read_items", "read_form"),
    "walks": ("Walk",),
    "groups": ("Group",),
    "compare": ("same_questions", "parting"),
    "reports": ("never_asked", "always_asked", "first_asked", "needless_checks", "shown_by"),
    "booklets": ("Booklet",),
    "judging": ("fault",),
    "arrows": ("least_booklet", "row_count", "due_rows"),
    "orders": ("needed_ahead", "ordered", "orders", "best_order"),
    "numerals": ("Numerals",),
    "classes": ("Classes",),
    "tongues": ("Tongue",),
    "lines": ("broken",),
    "printing": ("answers_listed", "row_lines"),
    "pressing": ("Press",),
    "readback": ("read_back",),
    "issues": ("Issue",),
    "slips": ("empty_pages", "filled_gaps", "slips_on"),
    "readings": ("Reading",),
    "bearing": ("rivalry", "unseen"),
    "repeats": ("repeated", "fewest_repeats"),
    "papers": ("Paper", "Sheet", "Letter", "Note"),
    "cases": ("Case",),
    "lots": ("fewest_lot", "ask_again"),
    "trees": ("Tree",),
    "steps": ("stepped", "linked"),
    "editions": ("Edition",),
    "carrying": ("carried", "fewest_forgotten"),
    "followups": ("FollowUp",),
    "entries": ("is_entry", "entry_line", "read_line"),
    "books": ("Book",),
    "journals": ("journal", "taken_up"),
    "totals": ("counting", "open_group", "bounds", "points"),
    "asks": ("Ask",),
}


def trees():
    """Return each file of the package with its text and its tree."""
    texts = [(path, path.read_text("ascii")) for path in sorted(PACKAGE.glob("*.py"))]
    return [(path.stem, text, ast.parse(text)) for path, text in texts]


def things(node):
    """Return the texts of all things that an expression may stand for, or that a loop over it walks."""
    if isinstance(node, (ast.Name, ast.Attribute, ast.Subscript)):
        return [ast.unparse(node)]
    parts = []
    if isinstance(node, ast.IfExp):
        parts = [node.body, node.orelse]
    elif isinstance(node, ast.BoolOp):
        parts = node.values
    elif isinstance(node, ast.Call) and isinstance(node.func, ast.Attribute) and node.func.attr in VIEWS:
        parts = [node.func.value]
    elif isinstance(node, ast.Call) and ast.unparse(node.func) in ("enumerate", "zip", "reversed"):
        parts = node.args
    return [told for part in parts for told in things(part)]


def pairs_given(target, value):
    """Return the pairs of a single target and what an assignment gives it."""
    if isinstance(target, ast.Tuple) and isinstance(value, ast.Tuple):
        return [pair for both in zip(target.elts, value.elts) for pair in pairs_given(*both)]
    return [(target, value)]


def kin_of(function):
    """Return a dict from texts to all texts that may stand for the same thing in a function."""
    kin = {}
    for node in [node for node in ast.walk(function) if isinstance(node, ast.Assign)]:
        for target, value in [pair for target in node.targets for pair in pairs_given(target, node.value)]:
            joined = {other for told in things(target) + things(value) for other in kin.get(told, {told})}
            kin.update({told: joined for told in joined})
    return kin


def changed_in(rows):
    """Return the texts of all things that some rows change."""
    found = []
    for node in [node for row in rows for node in ast.walk(row)]:
        if isinstance(node, ast.Call) and isinstance(node.func, ast.Attribute) and node.func.attr in CHANGING:
            found.extend(things(node.func.value))
        if isinstance(node, ast.AugAssign):
            found.extend(things(node.target))
        if isinstance(node, ast.Subscript) and not isinstance(node.ctx, ast.Load):
            found.extend(things(node.value))
    return found


def loops_changing(function):
    """Return the numbers of the rows at which a function begins to walk what it changes meanwhile."""
    kin = kin_of(function)
    found = []
    for node in ast.walk(function):
        rows = node.body + node.orelse if isinstance(node, ast.For) else [node]
        parts = [node] if isinstance(node, ast.For) else getattr(node, "generators", [])
        walked = {other for part in parts for told in things(part.iter) for other in kin.get(told, {told})}
        if walked & set(changed_in(rows)):
            found.append(node.lineno)
    return found


class Code(unittest.TestCase):
    def test_sizes_and_characters(self):
        for name, text, tree in trees():
            with self.subTest(name):
                lines = text.split("\n")
                self.assertLessEqual(len(lines), 400)
                self.assertLessEqual(max(len(line) for line in lines), 120)
                self.assertTrue(all(" " <= sign <= "~" or sign == "\n" for sign in text))
                for node in ast.walk(tree):
                    if isinstance(node, ast.FunctionDef):
                        self.assertLessEqual(node.end_lineno - node.lineno + 1, 40, node.name)

    def test_nothing_else_in_the_folder(self):
        found = [path.name for path in PACKAGE.iterdir() if path.name != "__pycache__"]
        self.assertEqual([name for name in found if not name.endswith(".py")], [])
        self.assertIn("__init__.py", found)

    def test_imports_are_of_the_package_alone(self):
        imported = {}
        for name, _, tree in trees():
            self.assertFalse([node for node in ast.walk(tree) if isinstance(node, ast.Import)])
            froms = [node for node in ast.walk(tree) if isinstance(node, ast.ImportFrom)]
            imported[name] = {node.module.removeprefix("slipleaf.") for node in froms}
            self.assertTrue(all(node.module.startswith("slipleaf.") and node in tree.body for node in froms))
        left = dict(imported)
        while left:
            free = [name for name in left if not left[name] & set(left)]
            self.assertTrue(free, "files import from each other")
            left = {name: left[name] for name in left if name not in free}

    def test_no_barred_statements(self):
        for name, _, tree in trees():
            for node in ast.walk(tree):
                self.assertNotIsInstance(node, BARRED, f"{name}, line {getattr(node, 'lineno', 0)}")

    def test_what_a_loop_walks_is_not_changed_in_it(self):
        for name, _, tree in trees():
            for node in ast.walk(tree):
                if isinstance(node, ast.FunctionDef):
                    with self.subTest(f"{name}.{node.name}"):
                        self.assertEqual(loops_changing(node), [])

    def test_loops_that_change_what_they_walk_are_seen(self):
        loops = {
            "for x in rows:\n  rows.append(x)": True,
            "for x in rows:\n  rows[x] = 1": True,
            "for x in rows:\n  del rows[x]": True,
            "for x in rows:\n  rows += [x]": True,
            "for k, x in enumerate(box.rows):\n  box.rows.pop()": True,
            "for k in rows[1].items():\n  rows[1].clear()": True,
            "for k in found or rows:\n  rows.sort()": True,
            "other = rows\nfor x in rows:\n  other.append(x)": True,
            "for k in ks:\n  new = []\n  for x in rows:\n    new.extend(x)\n  rows = new": True,
            "for k in ks:\n  new = {}\n  for x, y in rows.items():\n    new[x] = y\n  rows, k = new, 0": True,
            "found = [rows.pop() for x in rows]": True,
            "for x in list(rows):\n  rows.append(x)": False,
            "for x in rows:\n  other.append(x)": False,
            "for x in rows:\n  pass\nrows.append(1)": False,
            "for k in ks:\n  rows = [f(x) for x in rows]": False,
            "for k in ks:\n  new = []\n  for x in list(rows):\n    new.extend(x)\n  rows = new": False,
        }
        for text, seen in loops.items():
            with self.subTest(text):
                self.assertEqual(bool(loops_changing(ast.parse(text))), seen)

    def test_functions_say_what_they_are_for(self):
        for name, _, tree in trees():
            self.assertTrue(ast.get_docstring(tree), name)
            for node in ast.walk(tree):
                if isinstance(node, (ast.FunctionDef, ast.ClassDef)) and not node.name.startswith("__"):
                    self.assertTrue(ast.get_docstring(node), f"{name}.{node.name}")

    def test_the_interface_is_defined_where_it_stands(self):
        files = {name: tree for name, _, tree in trees()}
        for name, wanted in INTERFACE.items():
            found = [node.name for node in files[name].body if isinstance(node, (ast.FunctionDef, ast.ClassDef))]
            for thing in wanted:
                self.assertIn(thing, found)


if __name__ == "__main__":
    unittest.main()
