"""The package holds folders with an __init__.py and Python files, and names stand where they are listed."""

import importlib
import pathlib
import unittest

ROOT = pathlib.Path(__file__).resolve().parent.parent
PACKAGE = ROOT / "figurerounds"

LISTED = {
    "figurerounds.errors": (
        "FigureError", "NoRound", "NoFigure", "NoPlace", "NoAsk", "NoNumber",
    ),
    "figurerounds.figures.written": (
        "read_number", "number_shown", "figures_of", "step_of", "row_from",
    ),
    "figurerounds.rounds.down": ("greatest_kept", "length_down", "length_shown"),
    "figurerounds.rounds.ends": (
        "rounds_of", "end_of", "ends_of", "end_paper", "paper_shown",
    ),
    "figurerounds.figures.own": ("own_numbers",),
    "figurerounds.figures.least": ("least_with", "how_many_with", "least_away"),
    "figurerounds.counts.below": ("counts_below", "nth_in", "place_of"),
    "figurerounds.counts.shares": ("shares_of", "greatest_share"),
    "figurerounds.counts.runs": ("first_run", "longest_run"),
    "figurerounds.kept": ("KeptNumber",),
    "figurerounds.whole": ("Desk",),
}

METHODS = {
    ("figurerounds.kept", "KeptNumber"): (
        "put_figure", "take_off", "set_figure", "number_now", "step_now", "end_now",
    ),
    ("figurerounds.whole", "Desk"): ("ask",),
}


class Layout(unittest.TestCase):
    def test_each_listed_name_is_defined_in_its_file(self):
        for module_name, names in LISTED.items():
            module = importlib.import_module(module_name)
            for name in names:
                with self.subTest(module=module_name, name=name):
                    self.assertEqual(getattr(module, name).__module__, module_name)

    def test_each_listed_method_is_defined_in_its_class(self):
        for (module_name, name), methods in METHODS.items():
            made = getattr(importlib.import_module(module_name), name)
            for method in methods:
                with self.subTest(name=name, method=method):
                    self.assertIn(method, vars(made))

    def test_only_python_files_and_folders_with_an_init(self):
        for path in [PACKAGE, *PACKAGE.rglob("*")]:
            if "__pycache__" in path.parts:
                continue
            with self.subTest(path=str(path)):
                if path.is_dir():
                    self.assertTrue((path / "__init__.py").is_file())
                else:
                    self.assertEqual(path.suffix, ".py")

    def test_files_are_plain_and_not_too_long(self):
        for path in PACKAGE.rglob("*.py"):
            with self.subTest(path=str(path)):
                text = path.read_text(encoding="utf-8")
                self.assertTrue(all(sign == "\n" or " " <= sign <= "~" for sign in text))
                lines = text.split("\n")
                self.assertLessEqual(len(lines), 400)
                self.assertLessEqual(max(len(line) for line in lines), 120)
