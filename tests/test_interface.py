"""The names and arguments of the interface, and the outer form of the package."""

import ast
import importlib
import inspect
import pathlib
import unittest

PACKAGE = pathlib.Path(__file__).resolve().parent.parent / "edgeshop"

# Each file's functions, with their arguments; those with an = may be left out.
FUNCTIONS = {
    "stocks": {
        "is_time": "thing", "is_size": "thing", "is_name": "thing", "need_stock": "thing",
        "tool_of": "stock, name", "work_of": "stock, name", "kind_of": "stock, name",
        "bench_of": "stock, hand", "benches": "stock", "set_of": "stock, tool", "kept_for": "stock, tool",
    },
    "stocktexts": {"stock_text": "stock", "read_stock": "text"},
    "events": {
        "need_history": "stock, thing", "holds": "stock, thing",
        "state_of": "stock, history, tool, time=999", "size_of": "stock, history, tool, time=999",
        "all_states": "stock, history, time=999", "held_by": "stock, history, hand, time=999",
        "at_bench": "stock, history, bench, time=999", "in_box": "stock, history, box, time=999",
        "at_stone": "stock, history, time=999", "lost_ones": "stock, history, time=999",
        "serves": "stock, history, tool, work, time=999", "who_had": "stock, history, tool",
    },
    "eventtexts": {"history_text": "stock, history", "read_history": "stock, text"},
    "picks": {
        "choice": "stock, history, work, time=999, box=None, hand=None, spare=False",
        "pick": "stock, history, work, time=999, box=None, hand=None, spare=False",
        "picks": "stock, history, works, time=999",
    },
    "sets": {
        "pieces_lacking": "stock, history, name, time=999", "is_whole_set": "stock, history, name, time=999",
        "stand_ins": "stock, history, name, time=999",
    },
    "plans": {
        "fewest": "stock, works", "plan_for": "stock, works", "paper_for": "stock, works",
        "check_paper": "stock, works, paper",
    },
    "found": {
        "can_be": "stock, history, kind, size, time=999", "alike_boxes": "stock, history, time=999",
    },
}

# Each class, by its file and its name, with its methods and their arguments.
CLASSES = {
    ("lives", "Life"): {
        "__init__": "self, stock, history, tool", "spans": "self", "at": "self, time=999", "many": "self, word",
        "__len__": "self", "__eq__": "self, other", "__str__": "self", "__repr__": "self",
    },
    ("found", "Contents"): {
        "__init__": "self, stock, history, box, time=999", "rows": "self",
        "__len__": "self", "__eq__": "self, other", "__str__": "self",
    },
    ("shop", "Shop"): {
        "__init__": "self, stock", "do": "self, deed", "tell": "self, event", "take": "self, number",
        "found": "self, time, kind, size, box", "undo": "self", "stock": "self", "history": "self", "in_time": "self",
        "many": "self", "life": "self, tool", "pick": "self, work, time=999, box=None, hand=None, spare=False",
        "state_of": "self, tool, time=999", "size_of": "self, tool, time=999", "lacking": "self, name, time=999",
        "copy": "self", "__len__": "self", "__eq__": "self, other", "__str__": "self",
    },
    ("desk", "Desk"): {"__init__": "self, text", "say": "self, line"},
}

BUILTINS = {
    "len", "range", "enumerate", "zip", "min", "max", "sum", "abs", "sorted", "reversed", "int", "str", "bool",
    "list", "tuple", "dict", "set", "isinstance", "ord", "repr", "any", "all", "divmod", "type",
    "Exception", "ValueError", "TypeError", "KeyError", "IndexError", "LookupError",
}


class Interface(unittest.TestCase):

    def test_each_function_is_defined_in_its_file_with_its_arguments(self):
        for file, functions in FUNCTIONS.items():
            module = importlib.import_module("edgeshop." + file)
            for name, arguments in functions.items():
                function = getattr(module, name)
                self.assertEqual(function.__module__, "edgeshop." + file, name)
                self.assertTrue(inspect.isfunction(function), name)
                self.assertEqual(str(inspect.signature(function)), "(" + arguments + ")", name)

    def test_each_class_has_its_methods_in_itself(self):
        for (file, name), methods in CLASSES.items():
            made = getattr(importlib.import_module("edgeshop." + file), name)
            self.assertTrue(inspect.isclass(made), name)
            self.assertEqual(made.__module__, "edgeshop." + file, name)
            for method, arguments in methods.items():
                function = vars(made)[method]
                self.assertTrue(inspect.isfunction(function), method)
                self.assertEqual(str(inspect.signature(function)), "(" + arguments + ")", method)


class Form(unittest.TestCase):

    def files(self):
        return [(path, path.read_text("ascii")) for path in sorted(PACKAGE.glob("*.py"))]

    def trees(self):
        return [(path.name, ast.parse(text)) for path, text in self.files()]

    def test_the_package_is_one_folder_of_files(self):
        found = [path.name for path in PACKAGE.iterdir() if path.name != "__pycache__"]
        self.assertEqual(sorted(found), [path.name for path, _ in self.files()])
        self.assertIn("__init__.py", found)

    def test_signs_and_sizes(self):
        for path, text in self.files():
            rows = text.split("\n")
            self.assertLessEqual(len(rows), 400, path)
            for row in rows:
                self.assertLessEqual(len(row), 120, (path, row))
                self.assertTrue(all(" " <= sign <= "~" for sign in row), (path, row))

    def test_functions_have_at_most_40_lines(self):
        for name, tree in self.trees():
            for node in ast.walk(tree):
                if isinstance(node, ast.FunctionDef):
                    self.assertLess(node.end_lineno - node.lineno, 40, (name, node.name))

    def test_imports_are_of_the_package_alone_and_not_around(self):
        ahead = {}
        for name, tree in self.trees():
            ahead[name] = []
            for node in ast.walk(tree):
                self.assertNotIsInstance(node, ast.Import, name)
                if isinstance(node, ast.ImportFrom):
                    self.assertTrue(node.module.startswith("edgeshop."), (name, node.module))
                    ahead[name].append(node.module.split(".")[1] + ".py")
        while ahead:
            free = [name for name, needed in ahead.items() if not set(needed) & set(ahead)]
            self.assertTrue(free, ahead)
            for name in free:
                del ahead[name]

    def test_no_builtins_but_those_of_the_subset(self):
        import builtins
        for name, tree in self.trees():
            for node in ast.walk(tree):
                if isinstance(node, ast.Name) and hasattr(builtins, node.id):
                    self.assertIn(node.id, BUILTINS, (name, node.lineno))

    def test_no_numbers_with_a_point_and_no_percent_sign(self):
        for name, tree in self.trees():
            for node in ast.walk(tree):
                self.assertNotIsInstance(node, (ast.Div, ast.Global, ast.AsyncFunctionDef), name)
                if isinstance(node, ast.Constant):
                    self.assertNotIsInstance(node.value, (float, complex), name)
                    self.assertNotIn("%", str(node.value), name)


if __name__ == "__main__":
    unittest.main()
