"""The form of the program: what can be seen of it without running it."""

import ast
import pathlib
import unittest

PACKAGE = pathlib.Path(__file__).resolve().parent.parent / "slipleaf"
BARRED = (
    ast.AsyncFunctionDef, ast.Global, ast.Set, ast.SetComp, ast.GeneratorExp, ast.Lambda, ast.AnnAssign, ast.Div,
)
INTERFACE = {
    "kinds": ("is_kind", "answers_of", "size_of", "is_answer", "is_content", "slips_between", "ticked"),
    "conditions": ("is_name", "is_full_name", "is_condition", "length_of", "names_in", "holds", "renamed"),
    "rounds": ("unrolled",),
    "forms": ("Form",),
    "records": ("record_of", "is_record", "asked_in", "failing_checks", "is_lawful", "person_of"),
    "writing": ("write_condition", "write_items", "write_form"),
    "reading": ("read_condition", "read_items", "read_form"),
    "walks": ("Walk",),
    "groups": ("Group",),
    "compare": ("same_questions", "parting"),
    "reports": ("never_asked", "always_asked", "first_asked", "needless_checks", "shown_by"),
    "booklets": ("Booklet",),
    "judging": ("fault",),
    "arrows": ("least_booklet", "row_count", "due_rows"),
    "orders": ("needed_ahead", "ordered", "orders", "best_order"),
    "numerals": ("Numerals",),
    "classes": ("Classes",),
    "tongues": ("Tongue",),
    "lines": ("broken",),
    "printing": ("answers_listed", "row_lines"),
    "pressing": ("Press",),
    "readback": ("read_back",),
    "issues": ("Issue",),
    "slips": ("empty_pages", "filled_gaps", "slips_on"),
    "readings": ("Reading",),
    "bearing": ("rivalry", "unseen"),
    "repeats": ("repeated", "fewest_repeats"),
    "papers": ("Paper", "Sheet", "Letter", "Note"),
    "cases": ("Case",),
    "lots": ("fewest_lot", "ask_again"),
    "trees": ("Tree",),
    "steps": ("stepped", "linked"),
    "editions": ("Edition",),
    "carrying": ("carried", "fewest_forgotten"),
    "followups": ("FollowUp",),
    "entries": ("is_entry", "entry_line", "read_line"),
    "books": ("Book",),
    "journals": ("journal", "taken_up"),
    "totals": ("counting", "open_group", "bounds", "points"),
    "asks": ("Ask",),
}


def trees():
    """Return each file of the package with its text and its tree."""
    texts = [(path, path.read_text("ascii")) for path in sorted(PACKAGE.glob("*.py"))]
    return [(path.stem, text, ast.parse(text)) for path, text in texts]


class Code(unittest.TestCase):
    def test_sizes_and_characters(self):
        for name, text, tree in trees():
            with self.subTest(name):
                lines = text.split("\n")
                self.assertLessEqual(len(lines), 400)
                self.assertLessEqual(max(len(line) for line in lines), 120)
                self.assertTrue(all(" " <= sign <= "~" or sign == "\n" for sign in text))
                for node in ast.walk(tree):
                    if isinstance(node, ast.FunctionDef):
                        self.assertLessEqual(node.end_lineno - node.lineno + 1, 40, node.name)

    def test_nothing_else_in_the_folder(self):
        found = [path.name for path in PACKAGE.iterdir() if path.name != "__pycache__"]
        self.assertEqual([name for name in found if not name.endswith(".py")], [])
        self.assertIn("__init__.py", found)

    def test_imports_are_of_the_package_alone(self):
        imported = {}
        for name, _, tree in trees():
            self.assertFalse([node for node in ast.walk(tree) if isinstance(node, ast.Import)])
            froms = [node for node in ast.walk(tree) if isinstance(node, ast.ImportFrom)]
            imported[name] = {node.module.removeprefix("slipleaf.") for node in froms}
            self.assertTrue(all(node.module.startswith("slipleaf.") and node in tree.body for node in froms))
        left = dict(imported)
        while left:
            free = [name for name in left if not left[name] & set(left)]
            self.assertTrue(free, "files import from each other")
            left = {name: left[name] for name in left if name not in free}

    def test_no_barred_statements(self):
        for name, _, tree in trees():
            for node in ast.walk(tree):
                self.assertNotIsInstance(node, BARRED, f"{name}, line {getattr(node, 'lineno', 0)}")

    def test_functions_say_what_they_are_for(self):
        for name, _, tree in trees():
            self.assertTrue(ast.get_docstring(tree), name)
            for node in ast.walk(tree):
                if isinstance(node, (ast.FunctionDef, ast.ClassDef)) and not node.name.startswith("__"):
                    self.assertTrue(ast.get_docstring(node), f"{name}.{node.name}")

    def test_the_interface_is_defined_where_it_stands(self):
        files = {name: tree for name, _, tree in trees()}
        for name, wanted in INTERFACE.items():
            found = [node.name for node in files[name].body if isinstance(node, (ast.FunctionDef, ast.ClassDef))]
            for thing in wanted:
                self.assertIn(thing, found)


if __name__ == "__main__":
    unittest.main()
