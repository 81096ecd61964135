"""The interface: names, arguments and where they are defined."""

import importlib
import inspect
import unittest

CLASSES = {
    "errors": ["DimmerError", "InvalidName", "DuplicateName", "UnknownName", "InvalidNote", "InvalidLine",
               "TooMany", "NoOrder", "InvalidOrder"],
    "tables": ["Table"],
    "nodes": ["Node", "Leaf", "Branch", "Group", "Row"],
    "trees": ["OrderTree"],
    "notes": ["Notes"],
    "solving": ["Solution"],
    "arranging": ["Arrangement"],
    "failures": ["Failure"],
    "sliders": ["Split"],
    "halls": ["Hall"],
    "desk": ["Desk"],
}

FUNCTIONS = {
    ("steps", "chain"): ["table", "start", "end"],
    ("steps", "tied"): ["table", "pair"],
    ("steps", "bar"): ["table"],
    ("steps", "lamps_of"): ["steps"],
    ("solving", "solve"): ["table", "notes=None"],
    ("solving", "fits"): ["table", "notes=None"],
    ("solving", "all_orders"): ["table", "notes=None"],
    ("solving", "count_orders"): ["table", "notes=None", "most=1000"],
    ("solving", "relation"): ["table", "notes", "first", "second"],
    ("checking", "order_holds"): ["table", "notes", "order"],
    ("checking", "steps_hold"): ["table", "steps"],
    ("checking", "bar_holds"): ["table", "steps"],
    ("checking", "ring_holds"): ["table", "notes", "ring"],
    ("checking", "failure_holds"): ["table", "notes", "most", "paper"],
    ("checking", "split_holds"): ["table", "paper"],
    ("checking", "arrangement_holds"): ["table", "notes", "arrangement"],
    ("arranging", "arrange"): ["table", "notes=None"],
    ("further", "may_show"): ["table", "notes", "lamps"],
    ("further", "next_shows"): ["table", "notes=None"],
    ("further", "prospects"): ["table", "notes", "first", "second"],
    ("further", "may_share"): ["table", "notes", "first", "second"],
    ("failures", "all_failed"): ["table", "notes=None", "most=2"],
    ("failures", "fewest_failed"): ["table", "notes=None", "most=2"],
    ("sliders", "split"): ["table"],
    ("sliders", "exchanges"): ["table", "notes=None"],
    ("charts", "chart"): ["table", "order", "on='#'", "off='.'"],
}

NODE_METHODS = {
    "leaves": ["self"], "many": ["self"], "shape": ["self"], "text": ["self"], "begins": ["self", "prefix"],
}

METHODS = {
    ("tables", "Table"): {
        "__init__": ["self", "lamps", "looks"], "read": ["text"], "__str__": ["self"],
        "__len__": ["self"], "__eq__": ["self", "other"],
        "shown": ["self", "look"], "seen": ["self", "lamp"], "rows": ["self"],
        "without": ["self", "*lamps"], "only": ["self", "*looks"],
        "with_look": ["self", "name", "*lamps"],
        "exchanged": ["self", "first", "second", "since=None"],
        "alike": ["self", "first", "second"],
    },
    ("nodes", "Leaf"): {"__init__": ["self", "name"], **NODE_METHODS},
    ("nodes", "Branch"): {"__init__": ["self", "*parts"]},
    ("nodes", "Group"): NODE_METHODS,
    ("nodes", "Row"): NODE_METHODS,
    ("trees", "OrderTree"): {
        "__init__": ["self", "names"], "of": ["table"], "__and__": ["self", "other"], "__contains__": ["self", "x"],
        "__eq__": ["self", "other"], "__len__": ["self"], "__str__": ["self"],
        "shape": ["self"], "begins": ["self", "prefix"], "orders": ["self"],
    },
    ("notes", "Notes"): {
        "__init__": ["self", "*pairs"], "__add__": ["self", "other"], "__sub__": ["self", "other"],
        "__neg__": ["self"], "__contains__": ["self", "x"], "__eq__": ["self", "other"], "__len__": ["self"],
        "__str__": ["self"], "__iter__": ["self"], "about": ["self", "look"], "closed": ["self"],
    },
    ("solving", "Solution"): {"__bool__": ["self"], "used": ["self"]},
    ("arranging", "Arrangement"): {
        "__init__": ["self", "settings", "stretches"], "__call__": ["self", "setting"],
        "__add__": ["self", "other"], "__radd__": ["self", "other"], "__neg__": ["self"],
        "__eq__": ["self", "other"],
    },
    ("halls", "Hall"): {
        "__init__": ["self"], "of": ["table", "notes=None"],
        "add_lamp": ["self", "name"], "add_look": ["self", "name", "*lamps"],
        "remove_lamp": ["self", "name"], "remove_look": ["self", "name"],
        "note": ["self", "before", "after"], "forget": ["self", "before", "after"],
        "change": ["self", "*changes"], "set_most": ["self", "value"], "undo": ["self"], "solution": ["self"],
        "best_order": ["self"], "relation": ["self", "first", "second"], "failed": ["self"],
        "tried": ["self", "*changes"],
    },
    ("desk", "Desk"): {
        "__init__": ["self", "hall=None"], "__call__": ["self", "line"], "run": ["self", "text"],
    },
}


def find(module, name):
    return getattr(importlib.import_module("dimmerlog." + module), name)


class Interface(unittest.TestCase):
    def test_each_class_is_defined_in_its_file(self):
        for module, names in CLASSES.items():
            for name in names:
                with self.subTest(name):
                    found = find(module, name)
                    self.assertTrue(inspect.isclass(found))
                    self.assertEqual(("dimmerlog." + module, name), (found.__module__, found.__qualname__))

    def test_each_method_is_defined_in_its_class(self):
        for (module, name), methods in METHODS.items():
            for method, arguments in methods.items():
                with self.subTest(f"{name}.{method}"):
                    self.assertIn(method, vars(find(module, name)))
                    signature = inspect.signature(getattr(find(module, name), method))
                    self.assertEqual(arguments, [str(given) for given in signature.parameters.values()])

    def test_each_function_is_defined_in_its_file(self):
        for (module, name), arguments in FUNCTIONS.items():
            with self.subTest(name):
                found = find(module, name)
                self.assertTrue(inspect.isfunction(found))
                self.assertEqual(("dimmerlog." + module, name), (found.__module__, found.__qualname__))
                self.assertEqual(arguments, [str(given) for given in inspect.signature(found).parameters.values()])

    def test_items_properties_static_and_class_methods(self):
        table, tree = find("tables", "Table"), find("trees", "OrderTree")
        self.assertIn("__getitem__", vars(table))
        self.assertIsInstance(vars(table)["groups"], property)
        self.assertIsInstance(vars(table)["read"], staticmethod)
        self.assertIsInstance(vars(tree)["total"], property)
        self.assertIsInstance(vars(tree)["of"], classmethod)
        hall = vars(find("halls", "Hall"))
        self.assertIn("__setitem__", hall)
        self.assertIsInstance(hall["of"], staticmethod)
        for name in ["table", "known", "changes", "most"]:
            self.assertIsInstance(hall[name], property)
        self.assertIsNotNone(hall["most"].fset)

    def test_generators(self):
        for found in [find("solving", "all_orders"), find("trees", "OrderTree").orders, find("further", "next_shows")]:
            self.assertTrue(inspect.isgeneratorfunction(found))

    def test_arguments_that_are_passed_by_name_only(self):
        for call, name in [(find("tables", "Table").exchanged, "since"), (find("solving", "count_orders"), "most"),
                           (find("failures", "all_failed"), "most"), (find("failures", "fewest_failed"), "most"),
                           (find("charts", "chart"), "on"), (find("charts", "chart"), "off")]:
            self.assertEqual(inspect.Parameter.KEYWORD_ONLY, inspect.signature(call).parameters[name].kind)

    def test_kinds_stand_in_their_classes(self):
        for name in ["Leaf", "Group", "Row"]:
            self.assertEqual(name.lower(), vars(find("nodes", name))["KIND"])

    def test_arguments_may_be_passed_by_name(self):
        table = find("tables", "Table")(lamps=["a"], looks=[("x", ["a"])])
        self.assertEqual((("a",), ("x",)), (table.shown(look="x"), table.seen(lamp="a")))
        self.assertEqual(table, type(table).read(text="lamps a\nlook x a"))
        self.assertTrue(table.alike(first="x", second="x"))
        self.assertEqual(table, table.exchanged(first="a", second="a", since="x"))
        self.assertEqual(2, len(table.with_look(name="y")))
        self.assertTrue(find("nodes", "Leaf")(name="a").begins(prefix=("a",)))

    def test_arguments_of_the_second_stage_may_be_passed_by_name(self):
        table = find("tables", "Table")(lamps=[], looks=[("x", []), ("y", [])])
        tree = find("trees", "OrderTree")
        self.assertEqual(tree(names=["x", "y"]), tree.of(table=table))
        self.assertTrue(tree(names=["x"]).begins(prefix=["x"]))
        self.assertEqual([("x", "y", None)], find("steps", "chain")(table=table, start=("x", "y"), end=("x", "y")))
        self.assertEqual([("x", "y")], find("steps", "tied")(table=table, pair=("x", "y")))
        self.assertIsNone(find("steps", "bar")(table=table))
        self.assertEqual([], find("steps", "lamps_of")(steps=[]))
        notes = find("notes", "Notes")(("y", "x"))
        self.assertEqual(notes, notes.about(look="x"))
        self.assertEqual(("y", "x"), find("solving", "solve")(table=table, notes=notes).order)
        self.assertTrue(find("solving", "fits")(table=table, notes=notes))
        self.assertEqual([("y", "x")], list(find("solving", "all_orders")(table=table, notes=notes)))
        self.assertEqual(1, find("solving", "count_orders")(table=table, notes=notes, most=5))
        self.assertEqual("after", find("solving", "relation")(table=table, notes=notes, first="x", second="y"))

    def test_arguments_of_the_third_stage_may_be_passed_by_name(self):
        table = find("tables", "Table")(lamps=["a"], looks=[("x", ["a"]), ("y", ["a"])])
        notes = find("notes", "Notes")(("y", "x"))
        self.assertTrue(find("checking", "order_holds")(table=table, notes=notes, order=("y", "x")))
        self.assertTrue(find("checking", "steps_hold")(table=table, steps=[("x", "y", None)]))
        self.assertFalse(find("checking", "bar_holds")(table=table, steps=[("x", "y", None)]))
        ring = [[("x", "y", None)], [("y", "x", None)]]
        self.assertFalse(find("checking", "ring_holds")(table=table, notes=notes, ring=ring))
        paper = (("ring", ring), [])
        self.assertTrue(find("checking", "failure_holds")(table=table, notes=notes + -notes, most=1, paper=paper))
        self.assertFalse(find("checking", "split_holds")(table=table, paper=("bar", 1, [])))
        arrangement = find("arranging", "arrange")(table=table, notes=notes)
        self.assertTrue(find("checking", "arrangement_holds")(table=table, notes=notes, arrangement=arrangement))
        self.assertEqual(arrangement, find("arranging", "Arrangement")(settings={"y": 1, "x": 2}, stretches={"a": (1, 2)}))
        self.assertEqual(("a",), arrangement(setting=2))
        self.assertTrue(find("further", "may_show")(table=table, notes=notes, lamps=["a"]))
        self.assertEqual([(), ("a",)], list(find("further", "next_shows")(table=table, notes=notes)))
        self.assertEqual({"a": "on"}, find("further", "prospects")(table=table, notes=notes, first="x", second="y"))
        self.assertFalse(find("further", "may_share")(table=table, notes=notes, first="x", second="y"))
        self.assertEqual([()], find("failures", "all_failed")(table=table, notes=notes, most=0))
        self.assertEqual((), find("failures", "fewest_failed")(table=table, notes=notes, most=0).lamps)

    def test_arguments_of_the_fourth_stage_may_be_passed_by_name(self):
        table = find("tables", "Table")(lamps=["b", "a"], looks=[("x", ["a"]), ("y", ["a"])])
        notes = find("notes", "Notes")(("y", "x"))
        self.assertEqual(("b", "a"), find("sliders", "split")(table=table).first)
        self.assertEqual(2, len(find("sliders", "exchanges")(table=table, notes=notes)))
        self.assertEqual("b            //   0\na            ++   2",
                         find("charts", "chart")(table=table, order=["y", "x"], on="+", off="/"))
        hall = find("halls", "Hall").of(table=table, notes=notes)
        hall.add_lamp(name="c")
        hall.add_look(name="z")
        hall.remove_lamp(name="b")
        hall.note(before="x", after="z")
        self.assertEqual("before", hall.relation(first="y", second="z"))
        hall.forget(before="x", after="z")
        hall.remove_look(name="z")
        hall.set_most(value=3)
        self.assertEqual((6, 3, ("a", "c")), (hall.changes, hall.most, hall.table.lamps))
        desk = find("desk", "Desk")(hall=hall)
        self.assertEqual("order y x", desk(line="order"))
        self.assertEqual(["1"], desk.run(text="count"))

    def test_attributes_are_set_when_an_object_is_created(self):
        self.assertLessEqual({"names", "root"}, vars(find("trees", "OrderTree")([])).keys())
        self.assertLessEqual({"pairs"}, vars(find("notes", "Notes")()).keys())
        solution = find("solving", "solve")(find("tables", "Table")([], []))
        self.assertLessEqual({"order", "bar", "ring"}, vars(solution).keys())
        self.assertLessEqual({"settings", "stretches"}, vars(find("arranging", "Arrangement")({}, {})).keys())
        failure = find("failures", "fewest_failed")(find("tables", "Table")([], []))
        self.assertLessEqual({"lamps", "paper"}, vars(failure).keys())
        split = find("sliders", "split")(find("tables", "Table")([], []))
        self.assertLessEqual({"first", "second", "paper"}, vars(split).keys())
        self.assertLessEqual({"hall"}, vars(find("desk", "Desk")()).keys())


if __name__ == "__main__":
    unittest.main()
