"""The interface: each name is defined in the file under which it is listed, with the arguments that are told."""

import importlib
import inspect
import unittest

LISTED = {
    "grids": {
        "is_grid": ["thing"], "cells": ["grid"], "corners": ["grid"], "faces_of": ["grid", "cell"],
        "faces": ["grid"], "round_of": ["grid", "face"],
    },
    "mesh": {
        "turn": ["wedge"], "wedges_of": ["grid", "cell"], "wedges": ["grid"], "points": ["grid"], "ties": ["grid"],
        "triangles": ["grid"],
    },
    "meshpapers": {"mesh_holds": ["sizes", "thing"], "mates": ["grid"]},
    "blocks": {"is_block": ["thing"], "worth": ["block", "point"], "is_high": ["block", "level", "point"]},
    "places": {"place_of": ["block", "level", "knot"], "along": ["block", "level", "knot"]},
    "pieces": {
        "table": [], "piece_in": ["block", "level", "wedge"], "pieces": ["block", "level"],
        "skin": ["block", "level"],
    },
    "skins": {
        "closed_holds": ["sizes", "thing"], "turned_back": ["cycle"], "partners": ["cycles"], "parts": ["cycles"],
        "rims": ["cycles"],
    },
    "counts": {"counts": ["cycles"], "euler": ["cycles"], "holes": ["cycles"]},
    "regions": {
        "regions": ["block", "level"], "region_holds": ["block", "level", "thing"], "own_counts": ["block", "level"],
    },
    "nests": {"nest": ["block", "level"], "nest_holds": ["highs", "lows", "thing"]},
    "walks": {
        "walk_holds": ["grid", "thing"], "crossed": ["block", "level", "walk"],
        "parted": ["block", "level", "one", "other"], "fewest": ["block", "level", "one", "other"],
        "heights_hold": ["block", "level", "thing"],
    },
    "volumes": {"part_of": ["block", "level", "wedge"], "volume": ["block", "level"]},
    "lids": {"lids": ["block", "level"], "volume_by": ["block", "level", "cycles", "lids"]},
    "levels": {"touched": ["block", "one", "other"]},
    "sweeps": {"sweep": ["block"], "count_at": ["block", "events", "level"]},
    "sheets": {"is_sheet": ["thing"], "steps": ["sheet", "level"]},
    "lines": {"lines": ["sheet", "level"], "areas": ["sheet", "level"], "layer": ["block", "k"]},
    "moves": {
        "moved_point": ["sizes", "move", "point"], "moved": ["block", "move"],
        "moved_cycles": ["sizes", "move", "cycles"], "mirror": ["move"], "then": ["move", "other"],
        "undone": ["move"],
    },
    "keepers": {"Keeper": ["block", "level"]},
    "words": {"show": ["block"], "read": ["text"]},
}
METHODS = {
    "its_block": [], "its_level": [], "its_skin": [], "its_cycles": ["cell"], "made": [], "renumber": ["corner", "number"],
    "relevel": ["level"], "cut": ["place", "numbers"], "heal": ["place"], "back": [], "tried": ["deeds", "tell"],
    "log": [], "__len__": [], "__eq__": ["other"], "__str__": [],
}
VALUES = {("blocks", "MOST"): 9999, ("keepers", "BACKS"): 30, ("keepers", "LINES"): 8}


class Interface(unittest.TestCase):
    def test_functions(self):
        for file, functions in LISTED.items():
            module = importlib.import_module(f"levelskins.{file}")
            for name, arguments in functions.items():
                function = getattr(module, name)
                self.assertEqual(function.__module__, module.__name__, name)
                self.assertEqual(list(inspect.signature(function).parameters), arguments, name)

    def test_methods(self):
        own = vars(importlib.import_module("levelskins.keepers").Keeper)
        for name, arguments in METHODS.items():
            self.assertEqual(list(inspect.signature(own[name]).parameters), ["self"] + arguments, name)
        tell = inspect.signature(own["tried"]).parameters["tell"]
        self.assertEqual((tell.kind, tell.default), (tell.KEYWORD_ONLY, None))

    def test_values(self):
        for (file, name), wanted in VALUES.items():
            told = getattr(importlib.import_module(f"levelskins.{file}"), name)
            self.assertIs(type(told), int)
            self.assertEqual(told, wanted)


if __name__ == "__main__":
    unittest.main()
