"""The names, the arguments and the homes of all that the document lists."""

import importlib
import inspect
import unittest

FUNCTIONS = {
    "signs": {"words": "text", "text_of": "words", "number_of": "word", "word_of": "number"},
    "webs": {
        "is_web": "thing",
        "is_place": "web thing",
        "is_tie": "web thing",
        "is_lot": "web side thing",
        "hangs": "many number ties",
        "sizes": "web",
        "ties_at": "web place",
        "neighbours_of": "web side lot",
        "pieces": "web side lot",
        "rank": "web side lot",
        "is_needed": "web tie",
    },
    "trees": {
        "is_tree": "web thing",
        "some_tree": "web",
        "many_trees": "web",
        "all_trees": "web",
        "way": "web tree place other",
        "part": "web tree tie side",
        "closes": "web tree tie",
        "changed": "web tree put out",
        "ends_of": "web tree",
    },
    "rows": {
        "calls_together": "web side",
        "how_many_calls": "web side",
        "is_call": "web side thing",
        "row_of": "web tree side",
        "is_row": "web side thing",
        "all_rows": "web side",
        "trees_with": "web side row",
    },
    "changed": {
        "exchanged": "web",
        "tree_exchanged": "web tree",
        "renamed": "web hands tasks",
        "row_renamed": "web side row names",
        "glued": "web place other goal",
        "tie_more": "web tie",
        "leaf_more": "web place",
    },
    "bars": {
        "is_bar": "web side call thing",
        "bar": "web side call",
        "least_bar": "web side call",
        "room": "web side call lot",
        "full_lots": "web side row",
        "least_full": "web side row number",
        "most_more": "web side row lot",
    },
    "filled": {
        "filling": "web side call",
        "is_filling": "web side call thing",
        "tree_for": "web side call",
        "is_tree_for": "web side call thing",
        "filling_by": "web side tree",
        "tree_within": "web side call filling",
        "is_tree_within": "web side call filling thing",
    },
    "shares": {
        "share": "web tree tie side",
        "tree_shares": "web tree side",
        "shares_by": "web tree order side",
        "shares_round": "web tree side place",
        "carried": "web tree tie side",
        "is_shares": "web side thing",
        "row_by_shares": "web side shares",
        "other_shares": "web side shares",
    },
    "prices": {
        "price": "web order tie",
        "prices": "web order",
        "potentials": "web tree order",
        "is_potentials": "web tree order thing",
        "gap": "web tree order tie",
        "under": "web tree order",
        "most_under": "web tree order",
        "cost": "web tree order side",
        "is_cheaper": "web tree other order side",
        "balance": "web order ring",
    },
    "tight": {
        "is_tight": "web order tree",
        "losing": "web order tree tie",
        "all_falls": "web order side tree",
        "is_fall": "web order side tree thing",
        "fallen": "web order side tree fall",
        "falls_down": "web order side tree",
        "tight_tree": "web order side row",
        "is_tightest": "web order side tree",
    },
    "partners": {
        "partner": "web order side row",
        "are_partners": "web order side row goal",
        "all_tight": "web order",
        "partners": "web order",
        "is_matched": "web order thing",
        "tie_tight": "web order tie",
        "led_unlike": "web order other",
        "order_leads_alike": "web order other",
        "alike_trees": "web order other",
    },
    "crossing": {
        "crossing": "web tree other",
        "is_crossing": "web tree other thing",
        "can_cross": "web tree other",
        "crossed_ties": "web tree other",
        "crossing_ties": "web tree other ring",
        "slack_one": "web order tree other ring",
        "gone_back": "web tree other ring",
    },
    "neighbours": {
        "over": "web order tree tie",
        "all_neighbours": "web order tree",
        "lone_ties": "web order tree",
        "is_neighbour": "web order tree thing",
        "handed_over": "web order tree tie",
        "walked": "web order tree other",
        "is_walk": "web order tree other thing",
    },
    "handings": {
        "can_hand": "web side row handing",
        "handed": "web side row handing",
        "handings": "web side row",
        "why_not_handed": "web side row handing",
        "is_why_not_handed": "web side row handing thing",
        "fewest_handings": "web side row goal",
        "plan": "web side row goal",
        "is_plan": "web side row goal thing",
        "led_by": "web side row plan",
        "plan_back": "web side row plan",
    },
    "nearest": {
        "how_far": "web side call",
        "excess": "web side call lot",
        "nearest_row": "web side call",
        "is_nearest": "web side call thing",
        "all_nearest": "web side call",
        "why_far": "web side call",
        "is_why_far": "web side call thing",
        "mending": "web side call",
        "is_mending": "web side call thing",
    },
    "counts": {
        "many_rows": "web side",
        "many_with": "web place number",
        "counts_at": "web place",
        "most_at": "web place",
        "least_at": "web place",
        "many_below": "web side limits",
        "many_above": "web side limits",
        "whole_web": "many number",
        "whole_rows": "many number",
        "whole_trees": "many number",
        "ring_web": "many",
        "ring_rows": "many",
    },
    "numbered": {
        "can_begin": "web side numbers",
        "next_span": "web side numbers",
        "row_at": "web side number",
        "row_number": "web side row",
        "first_row": "web side",
        "last_row": "web side",
        "next_row": "web side row",
        "row_ahead": "web side row",
        "rows_from": "web side row many",
    },
    "texts": {
        "is_sheet": "thing",
        "sheet_text": "sheet",
        "read_sheet": "text",
        "web_text": "web",
        "read_web": "text",
        "picture": "web tree",
        "read_picture": "text",
    },
    "worths": {
        "worth": "web side row worths",
        "best_worth": "web side worths",
        "best_row": "web side worths",
        "is_best_row": "web side worths thing",
        "all_best": "web side worths",
        "levels": "web side worths",
        "better": "web side row worths",
        "is_better": "web side row worths thing",
    },
    "lost": {
        "without": "web tie",
        "lost_rows": "web side tie",
        "is_lost": "web side row tie",
        "must_ties": "web side row",
        "tree_with": "web side row tie",
        "is_tree_with": "web side row tie thing",
        "least_share": "web side row tie",
    },
    "judge": {
        "is_demand": "thing",
        "is_so": "demand",
        "paper_against": "demand",
        "is_paper_against": "demand thing",
        "reason_for": "demand",
        "is_reason_for": "demand thing",
        "first_fallen": "demands",
    },
}


class Interface(unittest.TestCase):
    def test_names_and_arguments(self):
        for file, functions in FUNCTIONS.items():
            module = importlib.import_module("eachhandtied." + file)
            for name, arguments in functions.items():
                with self.subTest(file=file, name=name):
                    told = getattr(module, name)
                    self.assertEqual(list(inspect.signature(told).parameters), arguments.split())

    def test_each_is_defined_where_it_is_listed(self):
        for file, functions in FUNCTIONS.items():
            module = importlib.import_module("eachhandtied." + file)
            for name in functions:
                with self.subTest(file=file, name=name):
                    self.assertTrue(inspect.isfunction(getattr(module, name)))
                    self.assertEqual(getattr(module, name).__module__, module.__name__)

    def test_classes(self):
        listed = [("desk", "Desk", "web order"), ("errors", "NoPlace", "place"), ("errors", "NoTie", "tie")]
        listed += [("errors", "NothingDone", ""), ("errors", "BadText", "line"), ("errors", "Broken", "place")]
        listed += [("errors", name, "") for name in ("CanNot", "TooMany", "Unfit")]
        for file, name, arguments in listed:
            with self.subTest(file=file, name=name):
                module = importlib.import_module("eachhandtied." + file)
                told = getattr(module, name)
                self.assertTrue(inspect.isclass(told))
                self.assertEqual(told.__module__, module.__name__)
                if arguments:
                    self.assertEqual(list(inspect.signature(told).parameters), arguments.split())
                else:
                    self.assertEqual(vars(told()), {})

    def test_no_argument_has_a_value_of_its_own(self):
        for file, functions in FUNCTIONS.items():
            module = importlib.import_module("eachhandtied." + file)
            for name in functions:
                for own in inspect.signature(getattr(module, name)).parameters.values():
                    self.assertIs(own.default, inspect.Parameter.empty)
                    self.assertIs(own.kind, inspect.Parameter.POSITIONAL_OR_KEYWORD)


if __name__ == "__main__":
    unittest.main()
