import importlib
import inspect
import unittest

INTERFACE = {
    "hushrules.books": {
        "Book": "(wheels, rules=())",
        "is_rule": "(wheels, many, thing)",
        "beginnings": "(book)",
        "is_state": "(book, thing)",
        "begun": "(book, values)",
    },
    "hushrules.beats": {
        "may_do": "(book, state, rule)",
        "beat": "(book, state, *, order=None, off=())",
        "ahead": "(book, state)",
    },
    "hushrules.runs": {
        "state_at": "(book, state, beats, *, off=())",
        "round_of": "(book, state, *, off=())",
        "quiet_from": "(book, state, *, off=())",
        "times": "(book, state, rule, beats, *, off=())",
        "nth": "(book, state, rule, many=1, *, off=())",
    },
    "hushrules.lots": {
        "come_to": "(book, *, off=())",
        "never": "(book, rule)",
        "shows_never": "(book, rule, paper)",
    },
    "hushrules.offs": {
        "holds": "(book, wish, *, off=())",
        "fewest": "(book, wish)",
        "shows_fewest": "(book, wish, paper)",
    },
    "hushrules.seen": {
        "began": "(book, seen)",
        "clash": "(book, seen)",
        "shows_clash": "(book, seen, paper)",
    },
    "hushrules.alike": {
        "alike": "(one, other)",
        "shows_alike": "(one, other, paper)",
    },
    "hushrules.errors": {
        "NoBook": "(at)",
        "NoSeen": "(at)",
        "NoText": "(at)",
        "NoRule": "(rule)",
        "NoWheel": "(wheel)",
        "NoBeat": "(beats)",
        "NoPlace": "(place)",
    },
}


class Interface(unittest.TestCase):
    def test_names_and_arguments(self):
        for module, told in INTERFACE.items():
            for name, arguments in told.items():
                thing = getattr(importlib.import_module(module), name)
                self.assertEqual(str(inspect.signature(thing)), arguments, name)

    def test_each_is_defined_in_its_own_file(self):
        for module, told in INTERFACE.items():
            for name in told:
                self.assertEqual(getattr(importlib.import_module(module), name).__module__, module)


if __name__ == "__main__":
    unittest.main()
