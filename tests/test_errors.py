"""The errors: [5] and the interface."""

import ast
import inspect
import unittest

import hueward
from hueward import errors

FROM_MESSAGES = (
    "BadProgram BadInputs BadVotes BadCode BadSteps BadHue BadAddress BadNumber BadPaper BadPlace BadNode BadTable "
    "BadSize BadLength BadArray BadName BadIndex BadNew BadOrder TooLarge BadOther BadWish BadSlots BadMost "
    "BadCheckpoint BadMany NotEven BadLabels TooMany BadThing BadHues BadWishes BadWidths BadStruck BadStep BadRank "
    "NotSchedule Ended Full NotCaught NothingDone BadMoment"
).split()
FROM_VALUES = {
    "NoPart": ("part",),
    "BadText": ("line", "column"),
    "BadStrikes": ("at",),
    "BadCodeText": ("line",),
    "NoPaper": ("address",),
    "OffLabels": ("step",),
    "BadStrikesText": ("line",),
    "NotShown": ("doubt",),
    "Unclear": ("many",),
    "NotKept": ("name",),
}


class Errors(unittest.TestCase):

    def test_all_stand_directly_below_hue_error(self):
        self.assertEqual(errors.HueError.__bases__, (ValueError,))
        for name in FROM_MESSAGES + list(FROM_VALUES):
            error = getattr(errors, name)
            self.assertEqual(error.__bases__, (errors.HueError,), name)
            self.assertEqual(error.__module__, "hueward.errors")

    def test_there_are_no_others(self):
        found = [name for name, value in vars(errors).items() if inspect.isclass(value)]
        self.assertEqual(sorted(found), sorted(FROM_MESSAGES + list(FROM_VALUES) + ["HueError"]))

    def test_made_from_a_message(self):
        for name in ["HueError"] + FROM_MESSAGES:
            error = getattr(errors, name)("why it is so")
            self.assertEqual(str(error), "why it is so")
            with self.assertRaises(ValueError):
                raise error

    def test_made_from_values(self):
        for name, fields in FROM_VALUES.items():
            values = [["any value", at] for at in range(len(fields))]
            by_position = getattr(errors, name)(*values)
            by_name = getattr(errors, name)(**dict(zip(fields, values)))
            for field, value in zip(fields, values):
                self.assertIs(getattr(by_position, field), value)
                self.assertIs(getattr(by_name, field), value)
            with self.assertRaises(errors.HueError):
                raise by_name

    def test_the_package_itself_defines_nothing(self):
        values = vars(hueward)
        own = [name for name in values if not name.startswith("__") and not inspect.ismodule(values[name])]
        self.assertEqual(own, [])


INTERFACE = {
    "programs": {
        "is_name": "value", "is_program": "value", "part_names": "program", "nodes": "program part",
        "node_at": "program place", "depth_of": "program place", "with_node": "program place node",
        "runs_of": "program part", "ports_of": "program part", "renamed": "program table", "resized": "program size",
    },
    "progtexts": {
        "program_text": "program", "spot_of": "program place", "program_of": "text", "completed": "text",
    },
    "meaning": {"Run": "program inputs", "source_row": "program inputs steps"},
    "codes": {
        "is_votes": "value", "is_code": "value", "hues_of": "code", "is_instruction": "code hue value",
        "instructions": "code hue", "settles": "code", "is_strikes": "code value",
    },
    "codetexts": {"code_text": "code", "code_of": "text"},
    "machine": {
        "Machine": "code inputs strikes", "struck": "code inputs strikes steps",
        "machine_row": "code inputs steps strikes", "first_parting": "code inputs steps", "renumbered": "code order",
        "strikes_renumbered": "code strikes order",
    },
    "flows": {"things": "program", "flows": "program", "reached": "program thing", "chain": "program first last"},
    "widths": {
        "first_narrow": "program widths", "is_fit": "program hues value", "least_widths": "program hues wishes",
        "settled_widths": "program widths", "safe_things": "program votes widths struck",
        "is_whole": "program votes widths struck",
    },
    "compiling": {
        "compiled": "program votes widths", "widened": "code votes", "narrowed": "code hue",
        "own_steps": "code inputs steps",
    },
    "papers": {"joints": "code", "is_paper": "code value", "doubts": "code paper", "is_shown": "code paper"},
    "papermaking": {"made_paper": "code", "joined": "code other"},
    "thresholds": {
        "struck_hues": "code strikes", "judged": "code inputs strikes steps", "defeat": "code inputs steps",
        "stall": "code inputs steps", "plan": "told whole", "even_votes": "hues need", "suspects": "slots most",
    },
    "marks": {
        "Kept": "code inputs strikes", "is_checkpoint": "code value", "resumed": "code checkpoint",
        "most_again": "code inputs many steps", "slowest": "code inputs many steps",
    },
    "markplaces": {
        "is_even": "code", "longest_leg": "code", "with_marks": "code some", "fewest_marks": "code length",
    },
    "counts": {
        "spans": "code inputs steps hue place", "value_ranges": "code inputs steps hue place at",
        "tally": "code inputs steps hue", "tally_at": "code inputs steps hue place", "worst_strike": "code inputs steps",
        "longest_delay": "code inputs steps",
    },
    "schedules": {
        "labels_of": "code", "stretches": "code", "exchangeable": "code", "exchanged": "code address",
        "in_order": "code", "is_schedule": "code value", "schedules_many": "code", "schedule_rank": "code",
        "schedule_at": "code rank", "moved_address": "code other address",
        "moved_strikes": "code inputs strikes other steps", "nearest_exchanges": "code other",
        "exchanges_to": "code other",
    },
    "striketexts": {"strikes_text": "code strikes", "strikes_of": "code text"},
    "bench": {"Bench": "code paper inputs"},
    "desk": {"Desk": ""},
}
SEQUENCE = ["errors"] + list(INTERFACE)
METHODS = {
    "meaning.Run": {
        "go": "self steps", "reach": "self length steps", "cells": "self array", "set_local": "self part x number",
        "set_cell": "self array index number", "copy": "self",
    },
    "machine.Machine": {
        "go": "self steps", "strike": "self hue place new", "registers": "self hue", "cells": "self hue",
        "own": "self hue address", "copy": "self", "moment": "self",
    },
    "marks.Kept": {"go": "self steps", "strike": "self hue place new", "copy": "self", "machine": "self"},
    "bench.Bench": {
        "go": "self steps", "strike": "self hue place new", "lead": "self most", "lay": "self code paper",
        "begin": "self inputs", "keep": "self name", "back": "self name", "undo": "self", "moment": "self",
        "verdict": "self", "sights": "self", "fits": "self most", "blames": "self most", "row_at": "self at",
        "copy": "self", "tried": "self task", "__len__": "self", "__eq__": "self other",
    },
    "desk.Desk": {"say": "self line"},
}
ATTRIBUTES = {
    "meaning.Run": "row steps state left place wraps sources",
    "machine.Machine": "row steps state left pointers slots address",
    "marks.Kept": "out held state steps left kept legs",
    "bench.Bench": "code paper inputs row state steps left strikes struck kept log",
}
DEFAULTS = {
    "machine.Machine": ((),), "machine.machine_row": ((),), "compiling.compiled": (None,), "marks.Kept": ((),),
    "counts.tally": (None,),
}


class Interface(unittest.TestCase):

    def test_names_and_parameters(self):
        for module, functions in INTERFACE.items():
            file = __import__("hueward." + module, fromlist=["x"])
            for name, params in functions.items():
                value = getattr(file, name)
                self.assertEqual(value.__module__, "hueward." + module)
                self.assertEqual(" ".join(inspect.signature(value).parameters), params)

    def test_each_module_imports_only_from_those_ahead(self):
        """Those of the interface stand in this sequence; others are looked through."""
        for at, module in enumerate(SEQUENCE):
            reached = self.reached_from(module)
            self.assertNotIn(module, reached)
            self.assertEqual([name for name in SEQUENCE if name in reached and name not in SEQUENCE[:at]], [])

    def reached_from(self, module):
        """The modules that a module imports from, through others too."""
        found = []
        waiting = [module]
        while waiting:
            file = __import__("hueward." + waiting.pop(), fromlist=["x"])
            for node in ast.walk(ast.parse(inspect.getsource(file))):
                if isinstance(node, (ast.Import, ast.ImportFrom)):
                    self.assertIsInstance(node, ast.ImportFrom)
                    self.assertTrue(node.module.startswith("hueward."), "only from modules of the package")
                    name = node.module[len("hueward."):]
                    if name not in found:
                        found.append(name)
                        waiting.append(name)
        return found

    def test_methods(self):
        for name, methods in METHODS.items():
            own = vars(self.found(name))
            for method, params in methods.items():
                self.assertEqual(" ".join(inspect.signature(own[method]).parameters), params)

    def test_attributes_are_there_from_the_beginning(self):
        from hueward.bench import Bench
        from hueward.machine import Machine
        from hueward.marks import Kept
        from hueward.meaning import Run
        code = ((1,), 2, (("stop",),), ())
        made = {
            "meaning.Run": Run((2, (), (), ()), []), "machine.Machine": Machine(code, []), "marks.Kept": Kept(code, []),
            "bench.Bench": Bench(code, {0: []}, []),
        }
        for name, attributes in ATTRIBUTES.items():
            for attribute in attributes.split():
                getattr(made[name], attribute)

    def test_defaults(self):
        for module, functions in INTERFACE.items():
            for name in functions:
                signature = inspect.signature(self.found(module + "." + name))
                found = tuple([one.default for one in signature.parameters.values() if one.default is not one.empty])
                self.assertEqual(found, DEFAULTS.get(module + "." + name, ()))

    def found(self, name):
        """What is called so, behind the name of its module."""
        module, _, inside = name.partition(".")
        return getattr(__import__("hueward." + module, fromlist=["x"]), inside)


if __name__ == "__main__":
    unittest.main()
