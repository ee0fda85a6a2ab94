"""The section "The interface": the names, arguments and classes that must exist, and [2] on what is told twice."""
import importlib
import inspect
import unittest

NAMES = {
    "ratios": "is_ratio/1 ratio/2 plus/2 minus/2 times/2 over/2 is_below/2",
    "lives": "is_life/1 chance_at/2 lasting/2 miss/1 short/1",
    "means": "mean/1 mean_square/1 round_of/1",
    "making": "behind/2 mixed_by/2 cut_at/2 folded/2 later/2 left_of/2",
    "thinning": "thinned/3",
    "puts": "puts/2 puts_after/3 anew/2",
    "counts": "counts/2 many_by/2 in_all/1 together/2",
    "ways": "is_way/1 way_chance/2 all_ways/2",
    "wayschecker": "lets_ways/3",
    "wayspapers": "ways_paper/2",
    "standing": "ages/2 lefts/3 stretches/3 stays/2 age_and_left/4 mean_left/2",
    "ever": "share/1 ever_put/2 ever_ages/2 ever_lefts/2 ever_stretches/2 ever_ages_by/3 even_first/1",
    "sumchecker": "lets_sum/2",
    "sums": "sum_paper/2",
    "evenchecker": "lets_even/2",
    "evening": "even_paper/2",
    "gains": "gains/4 begun/3 gain_a_beat/3",
    "kinds": "is_kinds/1 chain/1 kind_life/2 lent/2",
    "kindputs": "kind_puts/3 kind_stands/3 first_of/4",
    "sharechecker": "lets_share/2",
    "sharing": "share_told/1 shares/1 ever_gain/2",
    "rules": "is_rule/1 rule_ends/2 rule_means/2 passed/2",
    "texts": "life_text/1 read_life/1 kinds_lines/1 read_kinds/1",
    "desk": "Desk/0",
}
ERRORS = {"FreshError": 1, "NoRatio": 0, "NoAge": 1, "NoBeat": 1, "NoPaper": 2, "TooMany": 1, "NoText": 1, "NoLines": 2,
          "NoName": 1, "NoRow": 1}


class Interface(unittest.TestCase):
    def test_each_name_with_its_arguments(self):
        for module, names in NAMES.items():
            found = importlib.import_module(f"freshparts.{module}")
            for name in names.split():
                name, many = name.split("/")
                told = getattr(found, name)
                self.assertEqual(told.__module__, f"freshparts.{module}")
                self.assertEqual(len(inspect.signature(told).parameters), int(many), name)

    def test_each_error(self):
        found = importlib.import_module("freshparts.errors")
        for name, many in ERRORS.items():
            self.assertEqual(len(inspect.signature(getattr(found, name)).parameters), many, name)

    def test_the_desks_method_stands_in_the_class_itself(self):
        desk = importlib.import_module("freshparts.desk").Desk
        self.assertIn("say", vars(desk))
        self.assertEqual(list(inspect.signature(desk.say).parameters)[1:], ["row"])


if __name__ == "__main__":
    unittest.main()
