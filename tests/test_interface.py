"""Tests of the form of the interface: where each function, class and method of the document stands."""

import ast
import unittest
from importlib import import_module
from pathlib import Path

from headskip import questions

PACKAGE = Path(__file__).resolve().parent.parent / "headskip"

FUNCTIONS = {
    "spots": "spots deciding_rows within alike same_truth shows_part",
    "kinds": "kinds kind_row shows_kinds",
    "covers": "covers shows_covers",
    "counts": "counts shows_counts lots_with matches_of",
    "ends": "possible sure lowest surely_below open_value levels",
    "sums": "sums shows_sums",
    "settled": "settle",
    "look_settled": "shows_settled shows_unsettled",
    "needs": "musts must fewest shows_fewest",
    "readers": "course",
    "losses": "loss greatest_loss shows_loss",
    "upkeep": "play sound shows_sound",
    "texts": "store_text",
    "reading": "read_store",
}

TOLD = "__contains__ fits normal is_in both merged __add__ __neg__ __eq__ __str__ span_of list_of read"
FILTER = (
    "__and__ __or__ __invert__ truth __call__ columns constants links __len__ renamed shifted mirrored __eq__ __str__ read"
)
ASKED = "__init__ columns __call__ on joined"
PAPER = "__init__ __eq__"
# The methods of each listed class; what a base class is told to have stands in the base class.
CLASSES = {
    "tolds": {
        "Told": TOLD, "Span": "", "Listed": "", "Full": "", "Holed": "", "Open": "", "Blank": "__init__",
        "FullSpan": "__init__", "HoledSpan": "__init__", "OpenSpan": "__init__",
        "FullList": "__init__", "HoledList": "__init__", "OpenList": "__init__",
    },
    "filters": {
        "Filter": FILTER, "Compared": "", "Less": "__init__", "AtMost": "__init__", "Same": "__init__", "Picked": "",
        "Among": "__init__", "Missing": "__init__", "Joined": "", "Both": "", "Either": "", "Turned": "", "Fixed": "",
        "Always": "__init__", "Never": "__init__",
    },
    "lots": {"Lots": "__init__ of __len__ __iter__ times __add__ without tally where __eq__ __str__ read"},
    "heads": {
        "Head": "__init__ of __getitem__ __contains__ __len__ __iter__ fits sample normal __le__ __lt__ __ge__ __gt__ "
                "__and__ __or__ with_told around __eq__ __str__ read",
    },
    "spots": {"Limit": PAPER, "Part": PAPER},
    "kinds": {"Kinds": PAPER},
    "covers": {"Covers": PAPER},
    "counts": {
        "Counts": "ranges minimum maximum is_fixed __contains__ __len__ __iter__ __eq__ __str__ __add__",
    },
    "sums": {"Sums": PAPER + " is_fixed"},
    "shelves": {
        "Shelf": "__init__ __getitem__ __len__ __iter__ with_head with_merged __add__ fits sample read_at agrees __eq__ of",
        "Table": "__init__ __getitem__ __len__ __iter__ __eq__ with_block",
    },
    "questions": {
        "Question": "columns __call__ on joined __eq__ __str__ read", "OfColumn": "", "Some": ASKED, "Many": ASKED,
        "AtLeast": ASKED, "Greatest": ASKED, "Least": ASKED, "Total": ASKED, "Top": ASKED,
    },
    "settled": {"Settled": PAPER, "Unsettled": PAPER},
    "needs": {"Fewest": PAPER},
    "readers": {"Reader": "__eq__ __str__ read", "InOrder": "__call__", "OpenFirst": "__call__", "MostFirst": "__call__"},
    "losses": {"Loss": PAPER},
    "upkeep": {
        "Upkeep": "__init__ rules __eq__ __str__ read come gone together parted", "Come": PAPER, "Gone": PAPER, "Merge": "__eq__",
        "Split": PAPER, "Sound": PAPER, "Broken": PAPER,
    },
    "store": {
        "Store": "__init__ put take change merge split look undo __len__ trial tried upkeep shelf table __eq__",
        "Trial": "__enter__ keep __exit__",
    },
    "desk": {"Desk": "__init__ ask __call__ run __len__"},
}


def body_of(module):
    return ast.parse((PACKAGE / f"{module}.py").read_text(encoding="ascii")).body


class Interface(unittest.TestCase):
    def test_functions_are_defined_in_their_files(self):
        for module, names in FUNCTIONS.items():
            found = {node.name for node in body_of(module) if isinstance(node, ast.FunctionDef)}
            self.assertLessEqual(set(names.split()), found, module)
            for name in names.split():
                self.assertEqual(getattr(import_module(f"headskip.{module}"), name).__module__, f"headskip.{module}")

    def test_methods_stand_in_the_bodies_of_their_classes(self):
        for module, classes in CLASSES.items():
            bodies = {node.name: node.body for node in body_of(module) if isinstance(node, ast.ClassDef)}
            for name, methods in classes.items():
                self.assertIn(name, bodies, module)
                found = {node.name for node in bodies[name] if isinstance(node, ast.FunctionDef)}
                self.assertLessEqual(set(methods.split()), found, (module, name))

    def test_all_questions_that_are_made_are_looked_at(self):
        # A further class of the file has to be told above.
        made = {name for name, part in vars(questions).items() if isinstance(part, type) and part.__module__ == questions.__name__}
        self.assertEqual(made, set(CLASSES["questions"]))
        self.assertIn("joined", vars(questions.Top))


if __name__ == "__main__":
    unittest.main()
