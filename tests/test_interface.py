"""The interface under errors.py, tables.py and nodes.py: names, arguments and where they are defined."""

import importlib
import inspect
import unittest

CLASSES = {
    "errors": ["DimmerError", "InvalidName", "DuplicateName", "UnknownName", "InvalidNote", "InvalidLine",
               "TooMany", "NoOrder", "InvalidOrder"],
    "tables": ["Table"],
    "nodes": ["Node", "Leaf", "Branch", "Group", "Row"],
}

NODE_METHODS = {
    "leaves": ["self"], "many": ["self"], "shape": ["self"], "text": ["self"], "begins": ["self", "prefix"],
}

METHODS = {
    ("tables", "Table"): {
        "__init__": ["self", "lamps", "looks"], "read": ["text"], "__str__": ["self"],
        "__len__": ["self"], "__eq__": ["self", "other"],
        "shown": ["self", "look"], "seen": ["self", "lamp"], "rows": ["self"],
        "without": ["self", "*lamps"], "only": ["self", "*looks"],
        "with_look": ["self", "name", "*lamps"],
        "exchanged": ["self", "first", "second", "since=None"],
        "alike": ["self", "first", "second"],
    },
    ("nodes", "Leaf"): {"__init__": ["self", "name"], **NODE_METHODS},
    ("nodes", "Branch"): {"__init__": ["self", "*parts"]},
    ("nodes", "Group"): NODE_METHODS,
    ("nodes", "Row"): NODE_METHODS,
}


def find(module, name):
    return getattr(importlib.import_module("dimmerlog." + module), name)


class Interface(unittest.TestCase):
    def test_each_class_is_defined_in_its_file(self):
        for module, names in CLASSES.items():
            for name in names:
                with self.subTest(name):
                    found = find(module, name)
                    self.assertTrue(inspect.isclass(found))
                    self.assertEqual(("dimmerlog." + module, name), (found.__module__, found.__qualname__))

    def test_each_method_is_defined_in_its_class(self):
        for (module, name), methods in METHODS.items():
            for method, arguments in methods.items():
                with self.subTest(f"{name}.{method}"):
                    self.assertIn(method, vars(find(module, name)))
                    signature = inspect.signature(getattr(find(module, name), method))
                    self.assertEqual(arguments, [str(given) for given in signature.parameters.values()])

    def test_items_properties_and_static_methods(self):
        table = find("tables", "Table")
        self.assertIn("__getitem__", vars(table))
        self.assertIsInstance(vars(table)["groups"], property)
        self.assertIsInstance(vars(table)["read"], staticmethod)

    def test_since_is_passed_by_name_only(self):
        signature = inspect.signature(find("tables", "Table").exchanged)
        self.assertEqual(inspect.Parameter.KEYWORD_ONLY, signature.parameters["since"].kind)

    def test_kinds_stand_in_their_classes(self):
        for name in ["Leaf", "Group", "Row"]:
            self.assertEqual(name.lower(), vars(find("nodes", name))["KIND"])

    def test_arguments_may_be_passed_by_name(self):
        table = find("tables", "Table")(lamps=["a"], looks=[("x", ["a"])])
        self.assertEqual((("a",), ("x",)), (table.shown(look="x"), table.seen(lamp="a")))
        self.assertEqual(table, type(table).read(text="lamps a\nlook x a"))
        self.assertTrue(table.alike(first="x", second="x"))
        self.assertEqual(table, table.exchanged(first="a", second="a", since="x"))
        self.assertEqual(2, len(table.with_look(name="y")))
        self.assertTrue(find("nodes", "Leaf")(name="a").begins(prefix=("a",)))


if __name__ == "__main__":
    unittest.main()
