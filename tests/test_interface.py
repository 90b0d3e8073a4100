"""The interface: each name is defined in the file under which it stands, each method in its class."""

import ast
import unittest

import test_language

NAMES = {
    "errors": "HeapError BadPlace BadDirection BadHalf NoPlaces TooMany NotClosed BadDeed NothingDone BadRow BadText BadTable NoUndoing"
              " TooLong NotWhole BadName Missing UnknownName NoMoment",
    "fractions": "fraction is_fraction plus minus times_of divided is_less",
    "places": "place is_place comes_first moved apart scaled turn",
    "directions": "direction is_direction back quarter towards comes_ahead in_arc between",
    "halfplanes": "half is_half has on_line facing normal crossing height half_from half_at",
    "plates": "hull is_plate has_place sides top bottom farthest is_met",
    "laying": "cut_plate meet put mirror is_map led_place led inside",
    "heaps": "Heap look scaled_heap led_heap mirrored",
    "overlays": "over cut cut_line cut_open",
    "heaptexts": "heap_text read_heap",
    "steps": "judge_steps steps_of step_at step_sum added_steps times_steps cut_steps mirrored_steps put_steps tops_of bottoms_of stretch_of",
    "rounds": "judge_round round_of round_at round_sum added_rounds times_round",
    "shadows": "shadow tops bottoms",
    "halves": "half_sum line_sum around looked_back",
    "tables": "table total_by half_by look_by judge_table",
    "unlikes": "are_alike unlike judge_unlike testing",
    "products": "put_together power arcs_of together_table",
    "undoing": "taken_back judge_back quotient",
    "bent": "bends judge_bends bent_heap one_plate parted stretches",
    "insides": "inside_out inside_look",
    "germs": "germ off rim",
    "folds": "chords sweeps sweep_total",
    "cells": "cells inner",
    "stains": "stain where without is_closed pieces holes walk judge_walk",
    "plain": "heap_of plain unlike_place",
    "sizes": "area moments middle areas_by_look width thinnest",
    "counts": "columns ladder whole_places places_ahead nth_place whole_hull growth growths count_at whole_map",
    "deeds": "behind change grown deed_text read_deed",
    "house": "House blame would_tell tried",
    "console": "Console",
}

METHODS = {
    "Heap": "rows weight total __len__ __eq__ __add__ __sub__ __mul__ __rmul__",
    "House": "do undo redo branch go present state state_at __len__ here branches trail place log pick revert merge twin __eq__",
    "Console": "house say",
}

PARAMETERS = {
    "inside_look": 2, "chords": 2, "sweeps": 2, "sweep_total": 2, "cells": 1, "inner": 1, "where": 2, "without": 2, "walk": 3,
    "judge_walk": 4, "heap_of": 1, "unlike_place": 2, "width": 2, "thinnest": 1, "ladder": 4, "places_ahead": 2, "nth_place": 2,
    "count_at": 2, "whole_map": 2, "behind": 2, "change": 2, "grown": 2, "deed_text": 1, "read_deed": 1, "blame": 3, "would_tell": 2, "tried": 2,
}


class Interface(unittest.TestCase):
    def definitions(self, name):
        tree = dict(test_language.trees())[name + ".py"]
        return {node.name: node for node in tree.body if isinstance(node, (ast.FunctionDef, ast.ClassDef))}

    def test_each_name_is_defined_in_its_file(self):
        for name, words in NAMES.items():
            defined = self.definitions(name)
            for word in words.split():
                self.assertIn(word, defined, name)

    def test_each_method_is_defined_in_its_class(self):
        for name in NAMES:
            for word, node in self.definitions(name).items():
                if word in METHODS:
                    own = [part.name for part in node.body if isinstance(part, ast.FunctionDef)]
                    for method in METHODS[word].split():
                        self.assertIn(method, own, word)

    def test_how_many_arguments(self):
        for name in NAMES:
            for word, node in self.definitions(name).items():
                if word in PARAMETERS:
                    self.assertEqual(len(node.args.args), PARAMETERS[word], word)

    def test_no_clock_no_random_numbers_no_files(self):
        for name, tree in test_language.trees():
            for node in test_language.imports_of(tree):
                self.assertTrue(node.module == "math" or node.module.startswith("plateheaps."), (name, node.module))


if __name__ == "__main__":
    unittest.main()
