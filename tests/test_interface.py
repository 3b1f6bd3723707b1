import importlib
import inspect
import unittest

INTERFACE = {
    "hushrules.books": {
        "Book": "(wheels, rules=())",
        "is_rule": "(wheels, many, thing)",
        "beginnings": "(book)",
        "is_state": "(book, thing)",
        "begun": "(book, values)",
    },
    "hushrules.beats": {
        "may_do": "(book, state, rule)",
        "beat": "(book, state, *, order=None, off=())",
        "ahead": "(book, state)",
    },
    "hushrules.runs": {
        "state_at": "(book, state, beats, *, off=())",
        "round_of": "(book, state, *, off=())",
        "quiet_from": "(book, state, *, off=())",
        "times": "(book, state, rule, beats, *, off=())",
        "nth": "(book, state, rule, many=1, *, off=())",
    },
    "hushrules.lots": {
        "come_to": "(book, *, off=())",
        "never": "(book, rule)",
        "shows_never": "(book, rule, paper)",
    },
    "hushrules.offs": {
        "holds": "(book, wish, *, off=())",
        "fewest": "(book, wish)",
        "shows_fewest": "(book, wish, paper)",
    },
    "hushrules.seen": {
        "began": "(book, seen)",
        "clash": "(book, seen)",
        "shows_clash": "(book, seen, paper)",
    },
    "hushrules.alike": {
        "alike": "(one, other)",
        "shows_alike": "(one, other, paper)",
    },
    "hushrules.orders": {
        "outcomes": "(book, state)",
        "orders": "(book)",
        "shows_orders": "(book, paper)",
    },
    "hushrules.watch": {
        "Watch": "(book, values, *, off=())",
    },
    "hushrules.texts": {
        "show_book": "(book)",
        "read_book": "(text)",
        "show_state": "(state)",
        "read_state": "(book, text)",
    },
    "hushrules.desk": {
        "Desk": "(text)",
    },
    "hushrules.errors": {
        "NoBook": "(at)",
        "NoSeen": "(at)",
        "NoText": "(at)",
        "NoRule": "(rule)",
        "NoWheel": "(wheel)",
        "NoBeat": "(beats)",
        "NoPlace": "(place)",
    },
}

METHODS = {
    "hushrules.books.Book": {
        "__eq__": "(self, other)", "__len__": "(self)", "__repr__": "(self)", "__str__": "(self)",
    },
    "hushrules.watch.Watch": {
        "__eq__": "(self, other)", "__len__": "(self)", "__str__": "(self)",
        "go": "(self, beats=1)", "hush": "(self, rule, beats=1)", "wake": "(self, rule)", "turn": "(self, wheel, by=1)",
        "put": "(self, wheel, place)", "put_off": "(self, rule)", "put_on": "(self, rule)", "undo": "(self)",
        "tried": "(self, deed)", "now": "(self)", "state": "(self)", "off": "(self)", "counts": "(self)",
    },
    "hushrules.desk.Desk": {
        "say": "(self, row)",
    },
}


class Interface(unittest.TestCase):
    def test_names_and_arguments(self):
        for module, told in INTERFACE.items():
            for name, arguments in told.items():
                thing = getattr(importlib.import_module(module), name)
                self.assertEqual(str(inspect.signature(thing)), arguments, name)

    def test_methods_are_those_of_the_class_itself(self):
        for place, told in METHODS.items():
            module, name = place.rsplit(".", 1)
            own = vars(getattr(importlib.import_module(module), name))
            for method, arguments in told.items():
                self.assertIn(method, own)
                self.assertEqual(str(inspect.signature(own[method])), arguments, method)

    def test_each_is_defined_in_its_own_file(self):
        for module, told in INTERFACE.items():
            for name in told:
                self.assertEqual(getattr(importlib.import_module(module), name).__module__, module)


if __name__ == "__main__":
    unittest.main()
