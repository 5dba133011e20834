"""The names and arguments that the document's interface tells."""

import importlib
import inspect
import unittest

INTERFACE = {
    "errors": ("FurrowError", "NoText(line)", "TooMany()", "NoValues(ring)", "NoPlan()", "NoWidth()",
               "NoTurning()", "BadPlan()"),
    "terms": ("Term()", "Number(n)", "Value(name)", "Cell(table, spots)", "Joined(sign, left, right)",
              "placed(spots, values)"),
    "deeds": ("Deed(names, lows, highs, table, spots, term, path)", "Program(size, deeds)",
              "shared(one, other)", "named(deed, values)", "within(deed, values)",
              "ahead(program, one, other)"),
    "words": ("number_of(text)", "spot_of(text)", "is_name(text)"),
    "reader": ("read(text)",),
    "writer": ("written_term(term)", "written(program)"),
    "plain": ("turns(program, most)", "done(program, turns, cells)"),
    "bonds": ("settled(count, bonds)",),
    "reach": ("most(count, bonds, x, y)",),
    "touch": ("touches(deed)", "loop_bonds(deed, first)",
              "like_bonds(spots, names, first, others, other_names, other_first)"),
    "leans": ("meets(program)", "cases(program, k, l)", "case_bonds(program, k, a, l, b, case)",
              "leanings(program)"),
    "plans": ("fits(program, plan)", "own_plan(program)", "sweeps_of(plan)", "stand(plan, k)"),
    "times": ("ends(program, plan)", "order_of(program, plan, widths, one, other)"),
    "cases": ("sides(program, plan, k, l)", "side_bonds(program, plan, k, l, level, side)"),
    "looker": ("looked(program, plan)",),
    "maker": ("made(program, plan)",),
    "weaver": ("woven(lists, picks)", "order(code, widths, picks)"),
    "turnings": ("swapped(plan, path)", "joined(plan, path)", "parted(plan, path, n)", "turned(plan, path)",
                 "moved(plan, path, k, n)", "cut(plan, path)", "freed(plan, path)"),
    "freeing": ("freest(program, plan)",),
    "desk": ("shown(plan)", "answered(job, cells, widths, picks)"),
}


class Interface(unittest.TestCase):
    def test_names_and_arguments(self):
        for module, told in INTERFACE.items():
            found = importlib.import_module("furrow." + module)
            for text in told:
                name, bracket, arguments = text.partition("(")
                with self.subTest(module=module, name=name):
                    thing = getattr(found, name)
                    self.assertEqual(thing.__module__, "furrow." + module)
                    # A class without an __init__ of its own has the arguments of Python's.
                    if bracket and arguments != ")":
                        names = list(inspect.signature(thing).parameters)
                        self.assertEqual(names, arguments[:-1].split(", "))

    def test_worth_and_reads_of_terms(self):
        terms = importlib.import_module("furrow.terms")
        for name in ("Number", "Value", "Cell", "Joined"):
            kind = getattr(terms, name)
            self.assertEqual(list(inspect.signature(kind.worth).parameters), ["self", "values", "cells"])
            self.assertEqual(list(inspect.signature(kind.reads).parameters), ["self"])


if __name__ == "__main__":
    unittest.main()
