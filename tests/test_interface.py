"""That what the interface names is there, with the arguments that it tells, in their order."""

import importlib
import inspect
import unittest

FUNCTIONS = {
    "words": {"is_whole": "thing", "is_name": "thing"},
    "conditions": {"met_ways": "one other"},
    "rows": {"rule_of": "row", "wish_of": "text"},
    "booktext": {"book_of": "text", "text_of": "book"},
    "come": {"first_row": "book start trusted goals", "is_row": "book start trusted goals row"},
    "papers": {"lies_within": "way ban", "leading": "ban way bit sets", "is_paper": "book start trusted goals bans",
               "paper": "book start trusted goals", "answer": "book start trusted goals"},
    "staying": {"loss": "book start trusted who role", "lasting": "book start trusted", "never_had": "book start trusted"},
    "beside": {"common": "one other start trusted", "apart": "one other start trusted",
               "is_apart": "one other start trusted row deed which"},
    "striking": {"strike": "book start trusted goals wanted", "is_tree": "book start trusted goals wanted most tree"},
}
RULE = {"permits": "", "row": "", "names": "", "speaks_of": "deed", "missing": "office state deed", "ways": "office deed"}
CONDITION = {"__init__": "role", "holds": "office state who", "row": "", "ways": "office who"}
CLASSES = {
    "office": {"Office": {"__init__": "folk roles pairs", "bringing": "role", "bits": "", "bit": "who role",
                          "is_state": "thing", "having": "who role", "has": "state who role", "holders": "state role",
                          "rights": "state", "state_of": "rights"}},
    "conditions": {"Has": CONDITION, "Not": CONDITION, "Condition": {"__init__": "role"}},
    "rules": {"Give": {"__init__": "role by terms", **RULE}, "Take": {"__init__": "role by terms", **RULE},
              "Lay": {"__init__": "role terms", **RULE}, "Both": {"__init__": "one other", **RULE},
              "Most": {"__init__": "most role", **RULE}, "Last": {"__init__": "role", **RULE}, "Rule": {}},
    "rows": {"Wish": {"__init__": "parts", "holds": "office state", "row": "", "ways": "office"}},
    "book": {"Book": {"__init__": "office rules", "deeds": "", "missing": "state deed", "lets": "state deed",
                      "rule_for": "state deed", "done": "state deed", "ways": "deed", "without": "numbers"}},
    "log": {"Log": {"__init__": "book start", "do": "deed", "deeds_done": "", "state_now": "", "state_at": "number",
                    "since": "who role", "chain": "who role", "without_deed": "number", "copied": ""}},
    "come": {"Coming": {"__init__": "book start trusted", "states": "", "steps": "state", "row": "state"}},
    "desk": {"Desk": {"__init__": "text", "say": "request"}},
}


def arguments(function):
    return list(inspect.signature(function).parameters)


class TestInterface(unittest.TestCase):
    def test_functions(self):
        for module, functions in FUNCTIONS.items():
            for name, told in functions.items():
                found = getattr(importlib.import_module("mightever." + module), name)
                self.assertEqual(arguments(found), told.split(), name)
                self.assertEqual(found.__module__, "mightever." + module)

    def test_classes(self):
        for module, classes in CLASSES.items():
            for name, methods in classes.items():
                found = getattr(importlib.import_module("mightever." + module), name)
                self.assertTrue(inspect.isclass(found), name)
                self.assertEqual(found.__module__, "mightever." + module)
                for method, told in methods.items():
                    self.assertEqual(arguments(getattr(found, method)), ["self"] + told.split(), (name, method))


if __name__ == "__main__":
    unittest.main()
