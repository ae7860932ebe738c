"""Each name of the interface is defined in the file under which it is listed, with its arguments."""

import importlib
import inspect
import unittest

LISTED = {
    "webs": {
        "Web": ("many", "hues", "ties"), "renamed": ("web", "order"), "beside": ("one", "other"),
        "look": ("web", "row"),
    },
    "colours": {
        "colouring": ("webs", "level"), "is_closed": ("webs", "level", "thing"),
        "alike": ("one", "other", "level"), "portrait": ("web", "level"),
    },
    "turnings": {
        "turning": ("one", "other"), "is_turning": ("one", "other", "thing"), "many_turnings": ("web",),
    },
    "sayings": {
        "is_saying": ("thing",), "holds": ("web", "saying", "places"), "free": ("saying",), "names": ("saying",),
        "depth": ("saying",), "many_that": ("web", "saying", "name", "places"), "turned": ("saying", "order"),
        "plain": ("saying",),
    },
    "partings": {
        "parting": ("one", "other", "level"), "is_parting": ("one", "other", "level", "thing"),
        "marks": ("webs", "level", "number"),
    },
    "games": {
        "hold": ("one", "other", "level"), "plan": ("one", "other", "level"), "fewest": ("one", "other", "level"),
        "is_hold": ("one", "other", "level", "thing"), "is_plan": ("one", "other", "level", "thing"),
    },
    "playing": {
        "Game": ("one", "other", "level"), "played": ("one", "other", "level", "first", "second", "most"),
        "by_hold": ("hold",), "by_plan": ("one", "other", "level", "plan"),
    },
    "shares": {"shares": ("one", "other", "level"), "is_shares": ("one", "other", "level", "thing")},
    "refusals": {"refusal": ("one", "other", "level"), "is_refusal": ("one", "other", "level", "thing")},
}


class Interface(unittest.TestCase):
    def test_names_files_and_arguments(self):
        for file, names in LISTED.items():
            module = importlib.import_module("levelkin." + file)
            for name, arguments in names.items():
                found = getattr(module, name)
                self.assertEqual(found.__module__, "levelkin." + file)
                self.assertEqual(tuple(inspect.signature(found).parameters), arguments)

    def test_methods_stand_in_the_class_itself(self):
        web = importlib.import_module("levelkin.webs").Web
        self.assertIn("__init__", vars(web))
        self.assertIn("__eq__", vars(web))
        game = importlib.import_module("levelkin.playing").Game
        for name, arguments in (("__init__", ("self", "one", "other", "level")), ("standing", ("self",)),
                                ("tell", ("self", "order")), ("take", ("self", "place", "index")), ("back", ("self",)),
                                ("is_won", ("self",)), ("turns", ("self",)), ("copy", ("self",))):
            self.assertEqual(tuple(inspect.signature(vars(game)[name]).parameters), arguments)


if __name__ == "__main__":
    unittest.main()
