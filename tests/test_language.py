"""The files of the package keep to the rules of the language that a program can see."""

import ast
import builtins
import pathlib
import unittest

PACKAGE = pathlib.Path(__file__).resolve().parent.parent / "retrykeys"

INTERFACE = {
    "errors": [
        "RetryError", "InvalidSystem", "InvalidNumber", "InvalidWorkflow", "InvalidSituation", "InvalidProtection",
        "InvalidFaults", "InvalidState", "InvalidEvent", "TooLarge", "InvalidWeights", "InvalidRecord",
        "InvalidOrder", "ParseError", "DecodeError",
    ],
    "services": ["is_service", "is_system", "execute", "repeatable", "commuting"],
    "workflows": ["is_workflow", "call_steps", "plain", "calm_steps"],
    "runs": ["initial_state", "next_state", "possible_events", "replay"],
    "deciding": ["decide", "Sufficient", "Insufficient", "weakest", "tolerance"],
    "families": [
        "protections", "sufficient_protections", "minimal_protections", "robust_protections", "breaches", "family",
        "Family",
    ],
    "costs": ["protection_cost", "Cheapest", "cheapest"],
    "pairs": ["initial_joint", "next_joint", "decide_pair", "Isolated", "Interfering"],
    "records": ["record_of", "examine", "Explained", "Unexplained", "possible_situations"],
    "executions": ["Execution"],
    "ordering": ["reorder", "equivalent_orders", "best_order", "Reordered"],
    "texts": ["written", "read"],
    "encoding": ["encode_events", "decode_events"],
}
METHODS = {
    name: ["is_correct"] for name in [
        "Sufficient", "Insufficient", "Family", "Cheapest", "Isolated", "Interfering", "Explained", "Unexplained",
    ]
}
METHODS["Execution"] = ["apply", "undo", "possible", "state", "history", "record", "outcome"]

LIBRARY = {"itertools": ["combinations", "permutations", "product"]}
BUILTINS = """
    len range enumerate zip min max sum abs sorted reversed int str bool list tuple dict set isinstance any all super
    ValueError
""".split()
STATEMENTS = (
    ast.Assign, ast.AugAssign, ast.If, ast.While, ast.For, ast.Return, ast.Break, ast.Continue, ast.Pass, ast.Raise,
    ast.Expr, ast.FunctionDef, ast.ClassDef, ast.ImportFrom,
)
NOT_USED = (
    ast.GeneratorExp, ast.Div, ast.MatMult, ast.Await, ast.Yield, ast.YieldFrom, ast.NamedExpr, ast.Starred,
    ast.Lambda, ast.Set,
)
LIST_METHODS = "append extend reverse pop insert index count get join split startswith".split()
DOUBLE = ["__init__", "__eq__"]


class Language(unittest.TestCase):
    def files(self):
        for path in sorted(PACKAGE.glob("*.py")):
            yield path.stem, path.read_bytes().decode("ascii")

    def trees(self):
        for name, text in self.files():
            yield name, ast.parse(text)

    def nodes(self, kind):
        for name, tree in self.trees():
            for node in ast.walk(tree):
                if isinstance(node, kind):
                    yield f"{name}.py:{getattr(node, 'lineno', 0)}", node

    def test_folder(self):
        others = [path.name for path in PACKAGE.iterdir() if path.suffix != ".py" and path.name != "__pycache__"]
        self.assertEqual(others, [])
        self.assertIn("__init__", [name for name, _ in self.files()])

    def test_sizes_and_characters(self):
        for name, text in self.files():
            lines = text.split("\n")
            self.assertLessEqual(len(lines), 400, name)
            self.assertTrue(all(len(line) <= 120 for line in lines), name)
            self.assertTrue(all(letter == "\n" or " " <= letter <= "~" for letter in text), name)
        for place, node in self.nodes(ast.FunctionDef):
            self.assertLessEqual(node.end_lineno - node.lineno + 1, 40, place)

    def test_interface(self):
        trees = dict(self.trees())
        for name, wanted in INTERFACE.items():
            defined = {node.name: node for node in trees[name].body if hasattr(node, "name")}
            for word in wanted:
                self.assertIn(word, defined, name)
                own = [node.name for node in defined[word].body if isinstance(node, ast.FunctionDef)]
                for method in METHODS.get(word, []):
                    self.assertIn(method, own)

    def test_module_level(self):
        for name, tree in self.trees():
            bound = []
            for index, node in enumerate(tree.body):
                if isinstance(node, ast.Expr):
                    self.assertEqual((index, type(node.value.value)), (0, str), name)
                elif isinstance(node, ast.Assign):
                    ast.literal_eval(node.value)
                    bound.append(node.targets[0].id)
                elif isinstance(node, ast.ImportFrom):
                    bound.extend(alias.name for alias in node.names)
                else:
                    self.assertIsInstance(node, (ast.FunctionDef, ast.ClassDef), name)
                    bound.append(node.name)
            self.assertEqual(len(bound), len(set(bound)), name)

    def test_imports(self):
        trees = dict(self.trees())
        seen = {}
        for name, tree in trees.items():
            seen[name] = []
            for node in ast.walk(tree):
                self.assertNotIsInstance(node, ast.Import, name)
                if isinstance(node, ast.ImportFrom):
                    self.assertEqual(node.level, 0)
                    words = [alias.name for alias in node.names]
                    self.assertTrue(all(alias.asname is None for alias in node.names), name)
                    if node.module in LIBRARY:
                        self.assertTrue(set(words) <= set(LIBRARY[node.module]), name)
                    else:
                        package, _, module = node.module.partition(".")
                        self.assertEqual(package, "retrykeys")
                        body = trees[module].body
                        defined = [item.name for item in body if hasattr(item, "name")]
                        defined += [item.targets[0].id for item in body if isinstance(item, ast.Assign)]
                        self.assertTrue(set(words) <= set(defined), (name, words))
                        seen[name].append(module)
        while seen:
            free = [name for name, wanted in seen.items() if not set(wanted) & set(seen)]
            self.assertTrue(free, "files import from each other")
            for name in free:
                del seen[name]

    def test_statements_and_expressions(self):
        for place, node in self.nodes(ast.stmt):
            self.assertIsInstance(node, STATEMENTS, place)
        for place, node in self.nodes(NOT_USED):
            self.fail(f"{place}: {node}")
        for place, node in self.nodes(ast.Constant):
            self.assertNotIsInstance(node.value, (float, complex), place)
            if isinstance(node.value, str):
                self.assertNotIn("%", node.value, place)
        for place, node in self.nodes((ast.FunctionDef, ast.ClassDef)):
            self.assertEqual(node.decorator_list, [], place)
        for place, node in self.nodes(ast.Compare):
            for sign, side in zip(node.ops, node.comparators):
                if isinstance(sign, (ast.Is, ast.IsNot)):
                    self.assertIsNone(side.value, place)

    def test_names(self):
        taken = set(dir(builtins)) - {"_"}
        for name, tree in self.trees():
            imported = [alias.name for node in tree.body if isinstance(node, ast.ImportFrom) for alias in node.names]
            classes = [node.name for node in tree.body if isinstance(node, ast.ClassDef)]
            for node in ast.walk(tree):
                if isinstance(node, ast.arg):
                    self.assertNotIn(node.arg, taken | set(imported) | set(classes), name)
                if isinstance(node, ast.Name) and isinstance(node.ctx, ast.Store):
                    self.assertNotIn(node.id, taken | set(imported) | set(classes), name)
                if isinstance(node, ast.Name) and node.id in taken:
                    self.assertIn(node.id, BUILTINS, name)
                if isinstance(node, ast.Name) and node.id == "_":
                    self.assertIsInstance(node.ctx, ast.Store, name)
                if isinstance(node, (ast.FunctionDef, ast.ClassDef)):
                    self.assertNotIn(node.name, taken, name)
                    self.assertTrue(not node.name.startswith("__") or node.name in DOUBLE, name)

    def test_methods(self):
        own = {node.name for _, kind in self.nodes(ast.ClassDef) for node in kind.body if hasattr(node, "name")}
        attributes = {node.attr for _, node in self.nodes(ast.Attribute) if isinstance(node.ctx, ast.Store)}
        self.assertEqual(own & attributes, set())
        for value in (dict, list, str, int, tuple, bytes, range):
            self.assertEqual((own - set(DOUBLE)) & set(dir(value)), set())
            self.assertEqual((attributes - {"index", "count"}) & set(dir(value)), set())
        for place, node in self.nodes(ast.Call):
            if isinstance(node.func, ast.Attribute):
                self.assertIn(node.func.attr, own | set(LIST_METHODS), place)
            elif node.func.id in BUILTINS and node.func.id != "sorted":
                self.assertEqual(node.keywords, [], place)


if __name__ == "__main__":
    unittest.main()
