"""The interface of the document: each name, its arguments, and where it is defined."""

import importlib
import inspect
import unittest

from midfall.errors import MidfallError
from midfall.evaluators import Evaluator
from midfall.histories import History
from midfall.judging import judge
from midfall.namesets import NameSet
from midfall.policies import CarefulPolicy, EagerPolicy, Policy, TrailPolicy
from midfall.programs import Program
from midfall.results import Result

FUNCTIONS = {
    "graphs": {
        "reached": "(program, name)", "required": "(program, name)", "closure": "(program, names)",
        "readers": "(program, place)", "breaks": "(program, name, *, spared=())",
    },
    "plain": {"plain_result": "(program, name, *, numbers=None, broken=(), spared=())"},
    "tracing": {"trace": "(program, name, *, cached=())"},
    "hazards": {
        "hazards": "(program, name)", "needs": "(program)", "faults": "(program, *, marks=())",
        "tainted": "(program, *, marks=())",
    },
    "judging": {"judge": "(evaluator)"},
    "repairs": {"reads_first": "(program)", "warming": "(evaluator)"},
    "alike": {
        "alike": "(program, name, other, other_name)", "parting": "(program, name, other, other_name)",
    },
}
CLASSES = {
    "errors": {
        "MidfallError": None, "InvalidProgram": "(line)", "InvalidResult": "(line)", "InvalidHistory": "(line)",
        "UnknownProcedure": "(name)", "UnknownPlace": "(place)", "NotCached": "(name)", "NoItem": "(path)",
        "CallFailed": "(name, path, place)",
    },
    "namesets": {"NameSet": "(names=())"},
    "programs": {"Program": "(procedures)"},
    "results": {"Result": "(rows)"},
    "policies": {"Policy": None, "CarefulPolicy": "()", "TrailPolicy": "()", "EagerPolicy": "(marks=())"},
    "evaluators": {"Evaluator": "(program, *, policy=None, numbers=None)"},
    "histories": {"History": "(events=())"},
    "judging": {"Verdict": None},
}
METHODS = {
    "NameSet": {name: "(self, other)" for name in ("__eq__", "__le__", "__lt__", "__or__", "__and__", "__sub__")}
    | {"__contains__": None, "__len__": None},
    "Program": {"text": "(self)", "__getitem__": None, "__contains__": None, "__len__": None, "__eq__": None},
    "Result": {"rows": "(self)", "text": "(self)", "at": "(self, *path)", "first_difference": "(self, other)",
               "__eq__": None, "__len__": None},
    "Policy": {"__eq__": None, "__str__": None},
    "Evaluator": {
        "use": "(self, policy)", "run": "(self, name, *, broken=())", "__call__": "(self, name, broken=())",
        "peek": "(self, name)", "wrong": "(self)", "copy": "(self)", "__getitem__": None, "__setitem__": None,
        "__contains__": None, "__len__": None, "__eq__": None,
    },
    "History": {"text": "(self)", "play": "(self, evaluator)", "__add__": None, "__eq__": None, "__len__": None},
    "Verdict": {"__bool__": None},
}
PARSED = (("programs", "Program"), ("results", "Result"), ("histories", "History"))
PROPERTIES = {"Evaluator": {"policy": True, "cached": False}}


def found(module, name):
    return getattr(importlib.import_module(f"midfall.{module}"), name)


class InterfaceTest(unittest.TestCase):
    def test_functions(self):
        for module, functions in FUNCTIONS.items():
            for name, signature in functions.items():
                function = found(module, name)
                self.assertEqual(function.__module__, f"midfall.{module}")
                self.assertTrue(inspect.isfunction(function))
                self.assertEqual(str(inspect.signature(function)), signature, name)
        self.assertTrue(inspect.isgeneratorfunction(found("tracing", "trace")))

    def test_classes(self):
        for module, classes in CLASSES.items():
            for name, signature in classes.items():
                cls = found(module, name)
                self.assertEqual(cls.__module__, f"midfall.{module}")
                if signature is not None:
                    self.assertEqual(str(inspect.signature(cls)), signature, name)

    def test_methods_are_defined_in_the_class_itself(self):
        for module, classes in CLASSES.items():
            for name in classes:
                for method, signature in METHODS.get(name, {}).items():
                    function = vars(found(module, name))[method]
                    if signature is not None:
                        self.assertEqual(str(inspect.signature(function)), signature, (name, method))

    def test_parse_and_properties(self):
        for module, name in PARSED:
            self.assertIsInstance(vars(found(module, name))["parse"], classmethod)
            self.assertEqual(str(inspect.signature(found(module, name).parse)), "(text)")
        for name, settable in PROPERTIES["Evaluator"].items():
            self.assertIsInstance(vars(Evaluator)[name], property)
            self.assertIs(vars(Evaluator)[name].fset is not None, settable)

    def test_attributes_of_new_objects(self):
        program = Program.parse("p: call w, read d\nw: call p")
        evaluator = Evaluator(program)
        listed = [
            (NameSet(), ("members",)), (program, ("names", "places")), (History(), ("events",)),
            (evaluator, ("program", "readings", "calm", "policy", "cached")),
            (judge(evaluator), ("safe", "length", "history", "name", "returned", "expected", "path")),
            (judge(Evaluator(program, policy=EagerPolicy())), ("safe", "length", "history", "name", "returned")),
        ]
        listed += [(policy, ("marks",)) for policy in (CarefulPolicy(), TrailPolicy(), EagerPolicy())]
        for value, names in listed:
            for name in names:
                self.assertTrue(hasattr(value, name), name)
                if not isinstance(value, Evaluator):
                    self.assertIn(name, vars(value))
        for policy_class in (CarefulPolicy, TrailPolicy, EagerPolicy):
            self.assertEqual(policy_class.__bases__, (Policy,))

    def test_errors(self):
        names = [name for name in CLASSES["errors"] if name != "MidfallError"]
        for name in names:
            self.assertEqual(found("errors", name).__bases__, (MidfallError,))

    def test_none_is_equal_to_another_kind(self):
        program = Program.parse("p: read d")
        values = [NameSet(), program, Result([[]]), CarefulPolicy(), Evaluator(program), History(), (), "", None, 0, []]
        for one, value in enumerate(values):
            for other, second in enumerate(values):
                self.assertIs(value == second, one == other)
                self.assertIs(value != second, one != other)


if __name__ == "__main__":
    unittest.main()
