"""Names, arguments and kinds of values of the interface."""

import inspect
import unittest

from rootshared.base import pools, webs
from tests.helpers import BOTH, LINE

FUNCTIONS = ((webs, "silent_web", ["size"]), (webs, "full_web", ["size"]), (webs, "star_web", ["size", "center"]),
             (webs, "chain_web", ["size", "first"]), (pools, "star_pool", ["size"]), (pools, "chain_pool", ["size"]),
             (pools, "muted_pool", ["size"]))

WEB_METHODS = {"hears": ["house"], "reached": ["house"], "with_hearing": ["house", "other"],
               "without_hearing": ["house", "other"], "joined": ["other"], "shared": ["other"], "then": ["other"],
               "is_within": ["other"], "renumbered": ["numbers"]}
WEB_SIGNS = ("__init__", "__contains__", "__len__", "__eq__", "__str__")

POOL_METHODS = {"index_of": ["web"], "is_group": ["value"], "with_web": ["web"], "without": ["index"],
                "part": ["indices"], "reordered": ["indices"], "renumbered": ["numbers"]}
POOL_SIGNS = ("__init__", "__getitem__", "__contains__", "__iter__", "__len__", "__eq__", "__str__")


def parameters(call):
    return list(inspect.signature(call).parameters)


class Interface(unittest.TestCase):
    def test_functions(self):
        for module, name, wanted in FUNCTIONS:
            function = getattr(module, name)
            self.assertEqual(parameters(function), wanted, name)
            self.assertEqual(function.__module__, module.__name__, name)

    def check_class(self, made, module, methods, signs):
        self.assertEqual(made.__module__, module.__name__)
        for name in signs:
            self.assertIn(name, vars(made))
        for name, wanted in methods.items():
            self.assertIn(name, vars(made))
            self.assertEqual(parameters(vars(made)[name])[1:], wanted, name)

    def test_web(self):
        self.check_class(webs.Web, webs, WEB_METHODS, WEB_SIGNS)
        self.assertEqual(parameters(webs.Web), ["heard"])

    def test_pool(self):
        self.check_class(pools.Pool, pools, POOL_METHODS, POOL_SIGNS)
        self.assertEqual(parameters(pools.Pool), ["webs"])

    def test_constants(self):
        self.assertEqual((pools.MAX_WEBS, pools.MAX_HOUSES), (8, 5))

    def test_attributes_are_there_from_the_beginning(self):
        for name in ("heard", "size", "roots", "parts"):
            self.assertTrue(hasattr(webs.Web(((1,), (0,))), name), name)
        for name in ("webs", "size", "roots", "always"):
            self.assertTrue(hasattr(pools.Pool((BOTH,)), name), name)

    def test_kinds_of_values(self):
        self.assertIsInstance(BOTH.size, int)
        for value in (BOTH.heard, BOTH.roots, BOTH.parts, BOTH.parts[0], BOTH.hears(0), BOTH.reached(0)):
            self.assertIs(value.__class__, tuple)
        for value in (LINE.webs, LINE.roots, LINE.roots[0], LINE.always):
            self.assertIs(value.__class__, tuple)


if __name__ == "__main__":
    unittest.main()
