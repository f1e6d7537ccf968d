"""The rows of the interface: names, arguments, and where each is defined."""

import importlib
import inspect
import unittest

ERRORS = """SeamError InvalidKind InvalidOrder InvalidNumber InvalidRow InvalidList InvalidStanding InvalidDeed
InvalidWay InvalidLines InvalidFlag InvalidBook Unlike TooMany NothingToUndo NothingToRedo"""

FUNCTIONS = {
    "kinds": "wait(kind, one, other)",
    "orders": """is_order(kind, value); crossings(kind, order); falls(kind, order); heads(kind, order);
        stepped(kind, order, step); stepped_ahead(kind, order, step); opposite(kind, order);
        product(kind, one, other); how_many_orders(kind, crossings); orders_with(kind, crossings); greatest(kind)""",
    "blocks": """greatest_in(kind, block); steps_in(kind, order); parted(kind, order, block);
        how_many_in(kind, block)""",
    "rows": """is_row(kind, value); made(kind, row); alike(kind, one, other); crossed(kind, row);
        crossed_in(kind, order); is_least(kind, row); least_part(kind, row); is_least_part(kind, row, value);
        out_for(kind, row, step)""",
    "leastrows": """least_row(kind, order); how_many_least(kind, order); least_number(kind, row);
        least_numbered(kind, order, number); next_least(kind, row)""",
    "rowchains": """row_changes(kind, row); row_changed(kind, row, change); row_chain(kind, one, other);
        is_row_chain(kind, one, other, value)""",
    "greedy": """gained(kind, order, step); gained_ahead(kind, order, step); greedy(kind, one, other);
        greedy_all(kind, orders); lost(kind, one, other); halves(kind, one, other); leaves_alone(kind, one, other);
        how_many_leave(kind, order); power(kind, order, count); settles(kind, order); settled_orders(kind);
        greedy_row(kind, row); kept(kind, row); kept_behind(kind, row)""",
    "greedychains": "greedily_alike(kind, one, other); chain(kind, one, other); is_chain(kind, one, other, value)",
    "unfolding": "unfolded(order, size); folded(order, size)",
    "standings": """is_standing(kind, value); whole(kind, standing); wholes(kind, standing); turned(kind, standing);
        deeds(kind, standing); done(kind, standing, deed); led(kind, standing, deeds)""",
    "joining": """joined(kind, one, other); way(kind, one, other); is_way(kind, one, other, value);
        uppermost(kind, standing); lowermost(kind, standing); joined_at(kind, one, other, seams);
        way_at(kind, one, other, seams)""",
    "nearest": """far_above(kind, standing); far_below(kind, standing); nearer(kind, standing); way_up(kind, standing);
        how_many_up(kind, standing); up_numbered(kind, standing, number); odd(kind, one, other);
        seam_needs(kind, one, other); bounds(kind, one, other); fewest(kind, one, other); partner(kind, standing)""",
    "beneath": """is_beneath(kind, one, other); part(kind, order, row); is_part(kind, order, row, value);
        ahead(kind, order, cut, number); barred_cell(kind, one, other); is_barred(kind, one, other, value)""",
    "lower": """next_below(kind, order); next_above(kind, order); climb(kind, one, other);
        is_climb(kind, one, other, value); how_many_beneath(kind, order); beneath_numbered(kind, order, number);
        beneath_number(kind, order, value); how_many_between(kind, one, other); held_in(kind, order, block);
        factors(kind, order, one, other); are_factors(kind, order, one, other, value)""",
    "pairs": "pair_crossed(kind, order, low, high)",
    "beginnings": """begins(kind, one, other); ends(kind, one, other); rest(kind, one, other);
        rest_ahead(kind, one, other); apart(kind, one, other); is_apart(kind, one, other, value);
        greatest_beginning(kind, one, other); greatest_ending(kind, one, other); beginnings(kind, order);
        how_many_beginnings(kind, order); least_going_on(kind, one, other); least_ended(kind, one, other);
        round_of(kind, one, other); is_round(kind, one, other, value)""",
    "solving": """solvable(kind, order, goal); least_solution(kind, order, goal); solutions(kind, order, goal);
        how_many_solutions(kind, order, goal); greatest_solutions(kind, order, goal);
        solutions_ahead(kind, order, goal)""",
    "standcounts": """how_many_standings(kind, layers, order); standings_rest(kind, layers, order, modulus);
        how_many_within(kind, layers, order); standing_powers(kind, order); standing_rule(kind, order);
        standings_by_crossings(kind, layers, order); standings_by_deeds(kind, layers, order)""",
    "lacking": """lacking(kind, order, goal); lacking_ahead(kind, order, goal);
        lacking_between(kind, ahead, behind, goal)""",
    "standnumbers": """standing_number(kind, standing); standing_numbered(kind, layers, order, number);
        next_standing(kind, standing)""",
    "rowmachines": "row_machine(kind, order); state_orders(kind, order)",
    "rownumbers": """how_many_rows(kind, one, order, length); fall_rule(kind, one, order);
        first_with(kind, order, length); row_number(kind, row); row_numbered(kind, order, length, number);
        next_row(kind, row); how_many_staying(kind, order, length); last_staying(kind, order, row)""",
    "texts": "sheet_text(kind, standings, rows); read_sheet(text); wrong_line(text)",
    "book": """layers_at(book, number); fars(book); without_rounds(book); is_direct(book); touched(book);
        since_equal(book, number); books_joined(one, other)""",
}

METHODS = {("kinds", "Kind"): "__init__(self, name, size); name(self); size(self); steps(self); start(self)",
           ("book", "Book"): """__init__(self, kind, standing); do(self, deed); undo(self); redo(self);
               together(self, deeds, *, keep=True); log(self); copy(self); __eq__(self, other)"""}

PROPERTIES = {("book", "Book"): ["layers", "many_deeds"]}


def signatures(text):
    """Tuples (name, its arguments as they are printed) of a row of the interface."""
    told = [" ".join(entry.split()) for entry in text.split(";")]
    return [(entry[:entry.index("(")], entry[entry.index("("):]) for entry in told]


class Interface(unittest.TestCase):
    def test_errors(self):
        module = importlib.import_module("seamlayers.errors")
        for name in ERRORS.split():
            self.assertTrue(inspect.isclass(getattr(module, name)), name)
            self.assertEqual(getattr(module, name).__module__, "seamlayers.errors")

    def test_functions(self):
        for module_name, text in FUNCTIONS.items():
            module = importlib.import_module("seamlayers." + module_name)
            for name, arguments in signatures(text):
                function = getattr(module, name)
                self.assertEqual(str(inspect.signature(function)), arguments, name)
                self.assertEqual(function.__module__, module.__name__)

    def test_methods_stand_in_their_class(self):
        for (module_name, class_name), text in METHODS.items():
            found = getattr(importlib.import_module("seamlayers." + module_name), class_name)
            self.assertEqual(found.__module__, "seamlayers." + module_name)
            for name, arguments in signatures(text):
                self.assertEqual(str(inspect.signature(vars(found)[name])), arguments, name)

    def test_properties_stand_in_their_class(self):
        for (module_name, class_name), names in PROPERTIES.items():
            found = getattr(importlib.import_module("seamlayers." + module_name), class_name)
            for name in names:
                self.assertIsInstance(vars(found)[name], property)


if __name__ == "__main__":
    unittest.main()
