"""The names and arguments that the document's interface tells, module by module."""

import importlib
import inspect
import unittest

STEPS = {"step": "", "run": "most", "why": "", "state": "", "leave": "low behind word"}
MACHINE = {"": "rows store boxes at=0", "rows": "", "leaves": "", "copied": ""} | STEPS
DEED = {"step": "boxes store", "words": ""}
LONG = {"": ""} | DEED
# For each module its functions, as texts of their arguments, and its classes: "" stands for what they are made of.
INTERFACE = {
    "wholes": {"is_whole": "thing", "is_content": "thing"},
    "stretches": {"touched": "first many way", "shared": "one other", "apart": "stretches"},
    "store": {"Store": {"": "cells", "size": "", "told": "", "leaves": "", "leave": "low behind word", "look": "cell",
                        "put": "cell content", "may": "deed cell", "copied": ""}},
    "boxes": {"Boxes": {"": "here=0 there=0 left=0 way=1 sign=0 met=0", "holds": "box", "give": "box number",
                        "told": "", "copied": ""}},
    "deeds": {"Deed": {"": ""}, "Set": {"": "box number"} | DEED, "Add": {"": "box number"} | DEED,
              "Take": {"": "box other"} | DEED, "Read": {"": "box"} | DEED, "Write": {"": "box"} | DEED},
    "longs": {"Copy": LONG, "Fill": LONG, "Seek": LONG, "Match": LONG, "Shift": LONG, "Turn": LONG},
    "atonce": {"at_once": "deed boxes store"},
    "hops": {"Hop": {"": "many on=None"} | DEED},
    "machine": {"Machine": MACHINE},
    "watched": {"Watched": {"log": "", "back": "many"} | MACHINE},
    "logs": {"log_holds": "rows first entries last"},
    "items": {"Do": {"": "name", "told": ""}, "Times": {"": "many block", "told": ""},
              "When": {"": "on block other=None", "told": ""}},
    "book": {"Book": {"": "", "name": "word block"}, "count_of": "book block", "flat": "book block",
             "paths": "book block"},
    "walker": {"Walker": {"": "book block store boxes path", "where": ""} | STEPS},
    "parts": {},
    "crew": {"Crew": {"": "cells members", "step": "k", "run": "k most", "why": "k", "state": "k", "go": "order",
                      "floor": "", "leave": "low behind word"}},
    "shadows": {"is_blind": "rows", "shadows": "rows boxes size"},
    "likeness": {"alike": "one other boxes size"},
    "texts": {"read_block": "text", "show_block": "block", "read_state": "text", "show_state": "state leaves"},
    "desk": {"Desk": {"": "", "say": "row"}},
}


def arguments(call):
    told = []
    for name, parameter in inspect.signature(call).parameters.items():
        if name not in ("self", "args", "kwargs"):
            told.append(name if parameter.default is parameter.empty else f"{name}={parameter.default}")
    return " ".join(told)


class Interface(unittest.TestCase):
    def test_every_name_is_there_as_it_stands(self):
        for file, names in INTERFACE.items():
            module = importlib.import_module(f"haulbell.{file}")
            for name, wanted in names.items():
                thing = getattr(module, name)
                calls = {"": wanted} if isinstance(wanted, str) else wanted
                for method, told in calls.items():
                    self.assertEqual(arguments(getattr(thing, method) if method else thing), told, (file, name, method))


if __name__ == "__main__":
    unittest.main()
