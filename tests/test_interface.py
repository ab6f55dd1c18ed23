"""The interface: modules, names, parameters, and what stands in the classes themselves."""

import importlib
import inspect
import unittest

CASE = "memory program start goals"
TWO = "one other state against"
INTERFACE = {
    "memories": {"Memory": "letters moves", "stepped": "memory state letter", "read": "memory state word",
                 "negated": "memory", "relettered": "memory names"},
    "prices": {"is_price": "thing", "price_of": "p q", "is_ahead": "one other", "worth": "pair price", "amid": "one other",
               "meeting": "one other"},
    "fronts": {"is_front": "thing", "at_price": "front price", "corners_at": "front price", "front_of": "pairs",
               "joined": "one other", "summed": "one other", "repeated": "front number", "any_times": "front",
               "is_below": "one other"},
    "unders": {"above": "front pair", "mix": "front pair", "is_mix": "front pair thing", "turning_prices": "fronts"},
    "asking": {"by_asking": "asks"},
    "caches": {"cache": "rule ways lines back", "held": "rule ways lines back state"},
    "programs": {"Program": "procedures first", "letters_of": "program", "is_word_of": "program word",
                 "words_of": "program most", "never": "program", "in_rings": "program", "turned_about": "program"},
    "heads": {"heads": "program"},
    "tales": {"told": "memory program tale", "is_tale": "memory program thing", "length_of": "memory program tale",
              "word_told": "memory program tale most", "told_gap": "memory program tale"},
    "dearest": {"most_at": CASE + " price", "dearest": CASE + " price"},
    "papers": {"is_paper": "memory program price thing", "shown_most": CASE + " price paper", "paper": CASE + " price"},
    "pumps": {"pump": CASE + " price", "is_pump": CASE + " price thing"},
    "wholes": {"whole": CASE, "cheapest": CASE, "critical": "front"},
    "showings": {"showing": CASE, "is_showing": CASE + " thing"},
    "matrices": {"is_matrix": "thing", "unit_matrix": "many", "matrix_join": "one other", "matrix_product": "one other",
                 "matrix_power": "matrix number", "matrix_star": "matrix", "transposed": "matrix"},
    "equations": {"is_lettering": "thing", "lettering_of": "memory", "is_table": "lettering program thing",
                  "unfolded": "lettering program table", "heights": "lettering program number"},
    "orders": {"costs": "lettering program", "orders_told": "memory program tale", "by_order": "lettering program number",
               "order_of": "lettering program", "whole_by_orders": CASE},
    "together": {"replaced": "program letter other", "inlined": "program name path", "unrolled": "program name path"},
    "lengths": {"free": "letters", "tallied": "memory", "longest": CASE, "least_length": CASE, "by_length": CASE + " most",
                "within_length": CASE + " most", "dearest_word": CASE + " number price"},
    "shortest": {"shortest": CASE + " price", "short_tale": CASE + " price", "first_word": CASE + " price most",
                 "is_short_paper": "memory program price thing", "shown_short": CASE + " price paper",
                 "short_paper": CASE + " price", "corner_lengths": CASE, "settles": CASE},
    "prefixes": {"prefixes": "program", "suffixes": "program", "high_marks": "memory program start"},
    "spots": {"spot": "memory program tale at", "stretch_told": "memory program tale low high", "peak_told": "memory program tale",
              "first_above": "memory program tale price number"},
    "gaps": {"put_in": "word breaks", "taken_out": "word pieces"},
    "broken": {"broken": "program intruder count", "places": "program", "broken_at": "program intruder place"},
    "swamped": {"swamped": "program intruder", "parted": "program intruder count word", "reduced": "program intruder word"},
    "dearplaces": {"place_fronts": "memory program intruder start goals",
                   "dearest_places": "memory program intruder start goals price"},
    "sides": {"beside": "one other state against alone", "sides": "one other state against alone", "respelled": "program names"},
    "losses": {"loss": "one other program state against", "loss_marked": "memory alone program state",
               "loss_of_breaks": "memory program intruder count state", "loss_at": "memory program intruder place state",
               "loss_swamped": "memory program intruder state"},
    "alike": {"excess": "one other state against word", "likeness": "one other state against", "parting": "one other state against",
              "least_memory": "memory state"},
    "settling": {"settling": "memory", "unsettled": "memory", "is_unsettled": "memory thing"},
    "excesses": {"excess_front": TWO, "is_potential": TWO + " price thing", "gain": TWO + " ring", "excess_showing": TWO,
                 "is_excess_showing": TWO + " thing", "beginnings": "memory"},
    "monitors": {"Monitor": "letters moves lets", "least_monitor": "monitor", "barring": "letters some", "at_most": "letters some number",
                 "just": "letters some number", "counted": "letters some step rest", "behind": "letters early late",
                 "having": "letters word"},
    "watching": {"watched": "memory monitor", "watched_goals": "memory goals monitor", "watched_whole": CASE + " monitor",
                 "least_bans": CASE + " bound"},
    "barred": {"first_barred": "program monitor"},
    "stairs": {"best_at": "fronts price", "stairs": "fronts", "fewest": "fronts"},
    "choices": {"case_fronts": "cases", "plan": "cases price", "is_plan": "cases price thing"},
    "locks": {"locked": "rule ways lines back lot", "lock_cases": "rule ways lines back number program", "packings": "things room",
              "packed": "program packing", "packing_cases": "rule ways back program room"},
    "means": {"mean_at": CASE + " price", "margin_at": CASE + " price", "margin_tale": CASE + " price"},
    "laps": {"is_lap": CASE + " thing", "mean_of": CASE + " lap", "lap_at": CASE + " price", "is_mean_paper": "memory program price mean thing",
             "shown_margin": CASE + " price mean paper", "mean_paper": CASE + " price"},
    "meanshows": {"is_mean_front": "thing", "mean_worth": "means price", "mean_prices": "means", "no_gain": "means", "mean_front": CASE,
                  "mean_showing": CASE, "is_mean_showing": CASE + " thing"},
    "readings": {"is_open": CASE + " word", "rest_front": CASE + " word", "next_letters": CASE + " word", "Reading": CASE + " price"},
    "journals": {"journal_of": "reading", "first_false": CASE + " price thing", "replayed": CASE + " price journal",
                 "shortened": CASE + " price journal"},
    "texts": {"memory_text": "memory", "memory_of": "text", "program_text": "program", "program_of": "text", "front_text": "front",
              "front_from": "text", "word_text": "word", "word_from": "text"},
    "talewords": {"tale_text": "tale", "tale_from": "text"},
    "desk": {"Desk": ""},
}
# For each class the methods that stand in it, with their parameters.
METHODS = {
    ("memories", "Memory"): {"__init__": "letters moves", "__len__": "", "__eq__": "other"},
    ("programs", "Program"): {"__init__": "procedures first", "__eq__": "other", "procedures": None},
    ("monitors", "Monitor"): {"__init__": "letters moves lets", "__len__": "", "__eq__": "other", "__contains__": "thing", "__invert__": "",
                              "__and__": "other", "__or__": "other"},
    ("readings", "Reading"): {"__init__": CASE + " price", "__len__": "", "__eq__": "other", "read": "letter", "set_price": "price", "begin": "",
                              "keep": "", "drop": "", "undo": "", "word": "", "state": "", "price": "", "paid": "", "paid_worth": "", "blocks": "",
                              "may_end": "", "letters": "", "rest": "", "rest_least": "", "log": "", "copy": "", "behind": "word", "most": "",
                              "least": "", "worths": "", "dearest_choices": "", "cheapest_choices": "", "best_change": "prices"},
    ("desk", "Desk"): {"__init__": "", "__eq__": "other", "load": "name text", "drop": "name", "undo": "", "log": "", "names": "",
                       "answer": "line", "copy": ""},
}


class Interface(unittest.TestCase):
    def test_names_and_parameters(self):
        for module_name, names in INTERFACE.items():
            module = importlib.import_module("hitclocks." + module_name)
            for name, parameters in names.items():
                thing = getattr(module, name)
                self.assertEqual(thing.__module__, "hitclocks." + module_name, name)
                found = inspect.signature(thing).parameters
                self.assertEqual(list(found), parameters.split(), name)
                for parameter in found.values():
                    self.assertEqual(parameter.kind, inspect.Parameter.POSITIONAL_OR_KEYWORD)
                    self.assertIs(parameter.default, inspect.Parameter.empty)

    def test_methods_stand_in_the_classes(self):
        for (module_name, name), methods in METHODS.items():
            found = vars(getattr(importlib.import_module("hitclocks." + module_name), name))
            for method, parameters in methods.items():
                self.assertIn(method, found)
                if parameters is not None:
                    self.assertEqual(list(inspect.signature(found[method]).parameters), ["self"] + parameters.split(), method)

    def test_the_package_defines_nothing(self):
        package = importlib.import_module("hitclocks")
        with open(package.__file__, encoding="utf-8") as file:
            self.assertEqual(file.read(), "")


if __name__ == "__main__":
    unittest.main()
