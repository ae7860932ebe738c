"""Each name of the interface is defined in the file under which it is listed, with its arguments."""

import importlib
import inspect
import unittest

LISTED = {
    "webs": {
        "Web": ("many", "hues", "ties"), "renamed": ("web", "order"), "beside": ("one", "other"),
        "look": ("web", "row"),
    },
    "colours": {
        "colouring": ("webs", "level"), "is_closed": ("webs", "level", "thing"),
        "alike": ("one", "other", "level"), "portrait": ("web", "level"),
    },
}


class Interface(unittest.TestCase):
    def test_names_files_and_arguments(self):
        for file, names in LISTED.items():
            module = importlib.import_module("levelkin." + file)
            for name, arguments in names.items():
                found = getattr(module, name)
                self.assertEqual(found.__module__, "levelkin." + file)
                self.assertEqual(tuple(inspect.signature(found).parameters), arguments)

    def test_methods_stand_in_the_class_itself(self):
        web = importlib.import_module("levelkin.webs").Web
        self.assertIn("__init__", vars(web))
        self.assertIn("__eq__", vars(web))


if __name__ == "__main__":
    unittest.main()
