"""Each name of the interface is defined in the file under which it is listed, with its arguments."""

import importlib
import inspect
import unittest

LISTED = {
    "webs": {
        "Web": ("many", "hues", "ties"), "renamed": ("web", "order"), "beside": ("one", "other"),
        "look": ("web", "row"),
    },
    "colours": {
        "colouring": ("webs", "level"), "is_closed": ("webs", "level", "thing"),
        "alike": ("one", "other", "level"), "portrait": ("web", "level"),
    },
    "turnings": {
        "turning": ("one", "other"), "is_turning": ("one", "other", "thing"), "many_turnings": ("web",),
    },
    "sayings": {
        "is_saying": ("thing",), "holds": ("web", "saying", "places"), "free": ("saying",), "names": ("saying",),
        "depth": ("saying",), "many_that": ("web", "saying", "name", "places"), "turned": ("saying", "order"),
        "plain": ("saying",),
    },
    "partings": {
        "parting": ("one", "other", "level"), "is_parting": ("one", "other", "level", "thing"),
        "marks": ("webs", "level", "number"),
    },
    "games": {
        "hold": ("one", "other", "level"), "plan": ("one", "other", "level"), "fewest": ("one", "other", "level"),
        "is_hold": ("one", "other", "level", "thing"), "is_plan": ("one", "other", "level", "thing"),
    },
    "playing": {
        "Game": ("one", "other", "level"), "played": ("one", "other", "level", "first", "second", "most"),
        "by_hold": ("hold",), "by_plan": ("one", "other", "level", "plan"),
    },
    "shares": {"shares": ("one", "other", "level"), "is_shares": ("one", "other", "level", "thing")},
    "refusals": {"refusal": ("one", "other", "level"), "is_refusal": ("one", "other", "level", "thing")},
    "bases": {
        "Base": ("many", "ties"), "bags": ("base", "width"), "haven": ("base", "width"),
        "is_bags": ("base", "width", "thing"), "is_haven": ("base", "width", "thing"), "width": ("base",),
    },
    "twists": {
        "twisted": ("base", "twists"), "origin": ("base", "place"), "shifted": ("base", "twists", "others"),
        "hold_of": ("base", "level"), "plan_of": ("base", "level"),
    },
    "machines": {
        "states": ("web", "machine", "rounds"), "best": ("webs",), "found": ("webs", "level", "teller"),
    },
    "texts": {"web_text": ("web",), "read_web": ("text",)},
    "tongue": {"saying_text": ("saying",), "read_saying": ("text",)},
    "shelves": {"Disk": (), "Shelf": ("disk", "level")},
    "desk": {"Desk": ()},
}
METHODS = (
    ("webs", "Web", {"__init__": ("many", "hues", "ties"), "__eq__": ("other",)}),
    ("playing", "Game", {
        "__init__": ("one", "other", "level"), "standing": (), "tell": ("order",), "take": ("place", "index"),
        "back": (), "is_won": (), "turns": (), "copy": (),
    }),
    ("bases", "Base", {"__init__": ("many", "ties"), "__eq__": ("other",)}),
    ("shelves", "Disk", {"__init__": (), "text": (), "write": ("text", "most"), "cut": ("many",), "copy": ()}),
    ("shelves", "Shelf", {
        "__init__": ("disk", "level"), "put": ("name", "web", "most"), "drop": ("name", "most"), "names": (),
        "kin": ("web",), "kinds": (), "web": ("name",),
    }),
    ("desk", "Desk", {"__init__": (), "tell": ("line",)}),
)


class Interface(unittest.TestCase):
    def test_names_files_and_arguments(self):
        for file, names in LISTED.items():
            module = importlib.import_module("levelkin." + file)
            for name, arguments in names.items():
                found = getattr(module, name)
                self.assertEqual(found.__module__, "levelkin." + file)
                self.assertEqual(tuple(inspect.signature(found).parameters), arguments)

    def test_methods_stand_in_the_class_itself(self):
        for file, name, methods in METHODS:
            found = getattr(importlib.import_module("levelkin." + file), name)
            self.assertEqual(found.__bases__, (object,))
            for method, arguments in methods.items():
                self.assertEqual(tuple(inspect.signature(vars(found)[method]).parameters), ("self", *arguments))


if __name__ == "__main__":
    unittest.main()
