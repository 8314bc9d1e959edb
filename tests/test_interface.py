"""[22]: names, arguments, and in which file each is defined."""

import inspect
import unittest
from importlib import import_module

from tests.support import Case

# File by file: each function with its parameters.
FUNCTIONS = {
    "nets": {
        "is_part": ("thing",),
        "made_by": ("net", "channel"),
        "taken_by": ("net", "channel"),
        "with_part": ("net", "part"),
        "first_parts": ("net", "number"),
        "renamed": ("net", "one", "new"),
    },
    "walks": {
        "walked": ("net", "inflow"),
        "flow": ("net", "inflow"),
        "flow_of": ("net", "outlet", "inflow"),
        "passed": ("net", "channel", "inflow"),
    },
    "tables": {
        "is_shares": ("thing",),
        "is_table": ("thing",),
        "table_of": ("net",),
        "place_of_weir": ("net", "place"),
        "borders": ("table",),
        "outlets_of": ("table",),
        "amount_of": ("table", "outlet", "inflow"),
        "amounts": ("table", "inflow"),
        "share_at": ("table", "place"),
    },
    "alike": {
        "alike": ("one", "other"),
        "against": ("one", "other"),
        "is_against": ("one", "other", "thing"),
        "same_up_to": ("one", "other"),
        "unlike_outlets": ("one", "other"),
        "idle_weirs": ("net",),
    },
    "builds": {
        "fewest_weirs": ("table",),
        "net_of": ("table",),
        "is_net_of": ("table", "net"),
        "leanest": ("net",),
    },
    "lead": {
        "less_at": ("one", "other", "outlet"),
        "never_less": ("one", "other", "outlet"),
        "is_less_at": ("one", "other", "outlet", "thing"),
        "most_lead": ("one", "other", "outlet"),
        "compare": ("one", "other", "outlet"),
    },
    "back": {
        "least_inflow": ("net", "outlet", "amount"),
        "most_inflow": ("net", "outlet", "amount"),
        "greatest_amount": ("net", "outlet"),
        "inflow_for": ("net", "flows"),
    },
    "chains": {
        "behind": ("net", "outlet", "other"),
        "table_behind": ("table", "outlet", "other"),
        "mixed": ("one", "other", "share"),
        "weired": ("one", "limit", "other"),
    },
    "moves": {
        "limit_changed": ("net", "place", "limit"),
        "limit_for": ("net", "place", "border"),
        "unchanged_to": ("net", "place", "limit"),
        "exchanged_parts": ("net", "place"),
    },
    "hidden": {
        "told_table": ("flows",),
        "has_flows": ("table", "flows"),
        "surveyed": ("most", "asker"),
    },
    "rules": {
        "in_turn": ("claims",),
        "by_share": ("claims",),
        "evenly": ("claims",),
        "topmost": ("claims",),
    },
    "prices": {
        "is_prices": ("thing",),
        "worth": ("net", "prices", "inflow"),
        "worth_against": ("one", "other", "prices"),
        "never_worth_less": ("one", "other", "prices"),
        "is_worth_against": ("one", "other", "prices", "thing"),
        "inflow_worth": ("net", "prices", "amount"),
    },
    "sums": {
        "table_after": ("table", "amount"),
        "brought": ("net", "inflow", "more"),
        "sums_of": ("net", "inflows"),
        "more_for": ("net", "inflow", "outlet", "amount"),
    },
    "desk": {
        "answers": ("text",),
    },
    "texts": {
        "amount_text": ("amount",),
        "part_text": ("part",),
        "shares_text": ("shares",),
        "amount_from": ("text",),
        "part_from": ("text",),
        "shares_from": ("text",),
    },
}
# File by file: each class with the parameters of its constructor, its properties, its methods with their parameters, and its signs.
CLASSES = {
    "nets": {
        "Net": (("parts",), ("parts", "channels", "outlets", "weirs", "text"), {"of": ("text",)}, ("__len__", "__eq__")),
    },
    "changes": {
        "Watch": (
            ("net",),
            ("net", "told"),
            {"lay": ("part",), "lift": (), "limit": ("place", "limit"), "back": (), "twin": ()},
            ("__len__", "__eq__"),
        ),
    },
    "ranks": {
        "Ranks": (
            ("rows", "outlet"),
            ("names", "outlet"),
            {"is_never_less": ("name", "other"), "all_pairs": (), "below": ("name",), "above": ("name",), "ties": (), "layers": (), "chain": ()},
            ("__len__", "__eq__", "__contains__", "__getitem__"),
        ),
    },
    "board": {
        "Board": (
            (),
            ("names", "deeds"),
            {
                "put": ("name", "net"),
                "drop": ("name",),
                "rename": ("name", "new"),
                "lay": ("name", "part"),
                "lift": ("name",),
                "limit": ("name", "place", "limit"),
                "undo": (),
                "twin": (),
                "flow": ("name", "inflow"),
                "table": ("name",),
                "alike": ("name", "to"),
            },
            ("__len__", "__eq__", "__contains__", "__getitem__"),
        ),
    },
}


def parameters(call):
    return tuple(inspect.signature(call).parameters)


class InterfaceTest(Case):

    def test_functions(self):
        for file, functions in FUNCTIONS.items():
            module = import_module(f"layernets.{file}")
            for name, wanted in functions.items():
                with self.subTest(file=file, name=name):
                    function = getattr(module, name)
                    self.assertTrue(inspect.isfunction(function))
                    self.assertEqual(function.__module__, f"layernets.{file}")
                    self.assertEqual(parameters(function), wanted)

    def test_classes(self):
        for file, classes in CLASSES.items():
            module = import_module(f"layernets.{file}")
            for name, (wanted, properties, methods, signs) in classes.items():
                with self.subTest(file=file, name=name):
                    found = getattr(module, name)
                    self.assertTrue(inspect.isclass(found))
                    self.assertEqual(found.__module__, f"layernets.{file}")
                    self.assertEqual(parameters(found), wanted)
                    for attribute in properties:
                        self.assertIsInstance(vars(found)[attribute], property)
                    for method, words in methods.items():
                        self.assertIn(method, vars(found))
                        self.assertEqual(tuple(word for word in parameters(getattr(found, method)) if word != "self"), words)
                    for sign in signs:
                        self.assertIn(sign, vars(found))

    def test_net_of_is_static(self):
        net = import_module("layernets.nets").Net
        self.assertIsInstance(vars(net)["of"], staticmethod)
        self.same(net().of("weir in 3 a r").text, "weir in 3 a r")


if __name__ == "__main__":
    unittest.main()
