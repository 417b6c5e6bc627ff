"""The interface: each name, with its arguments as they stand in the document."""

import importlib
import inspect
import unittest

from pebbletoll.desk import Desk
from pebbletoll.webs import Web

FUNCTIONS = {
    "webs": ("toll(web, a, b)", "neighbours(web, a)"),
    "ways": ("way(web, a, b)", "price(web, a, b)", "ahead(web, r)", "down(web, r)", "beyond(web, a, b)"),
    "layings": (
        "laying_of(web, numbers)", "total(numbers)", "pile(web, place, many)", "put(web, laying, place, many)",
        "covers(laying, numbers)",
    ),
    "steps": ("walked(web, laying, steps)", "layings(web, laying, steps)", "spent(web, steps)"),
    "bringing": (
        "gathered(web, laying, r)", "most(web, laying, r)", "bring(web, laying, r)",
        "shows_most(web, laying, r, table)",
    ),
    "wishes": (
        "standings(web, laying, wish, r)", "standing(web, laying, wish, r)", "is_met(web, laying, wish)",
        "meeting(web, laying, wish)", "judged(web, laying, wish, answer)",
    ),
    "enough": (
        "weights_stand(web, r, weights)", "weighed(weights, laying)", "bound_by(web, r, wanted, weights)",
        "least_weights(web, r)", "enough(web, r, wanted)", "worst(web, r, wanted)", "hardest(web, wanted)",
    ),
    "always": ("pile_need(web, wish, v)", "always(web, wish)", "fails(web, wish)"),
    "worsts": (
        "is_worst(web, r, wanted, laying)", "worst_many(web, r, wanted)", "worst_at(web, r, wanted, number)",
        "worst_number(web, r, wanted, laying)",
    ),
    "fractions": (
        "fraction(top, bottom)", "plus(one, two)", "minus(one, two)", "times(one, two)", "less(one, two)",
        "sum_up(some)",
    ),
    "shares": (
        "worth(web, shares, v)", "yields(web, shares, u)", "even_shares(web)", "second_shares(web)",
        "shows_fairest(web, shares, second)", "fairest(web)",
    ),
    "texts": (
        "number_text(number)", "numbers_text(numbers)", "read_numbers(text)", "web_text(web)", "read_web(text)",
        "steps_text(steps)", "read_steps(text)",
    ),
    "desk": ("run(text)",),
}
CLASSES = {"webs": ("Web(many, roads)",), "desk": ("Desk(web)",), "errors": ("BadStep(at)", "BadText(at)")}
METHODS = (
    "put(self, place, many)", "want(self, place, many)", "step(self, a, b, times)", "back(self)", "laying(self)",
    "wish(self)", "deeds(self)", "answer(self, row)",
)


def shape(holder, form):
    name = form.partition("(")[0]
    return name + str(inspect.signature(getattr(holder, name)))


class Interface(unittest.TestCase):
    def test_functions(self):
        for module, forms in FUNCTIONS.items():
            holder = importlib.import_module("pebbletoll." + module)
            for form in forms:
                self.assertEqual(shape(holder, form), form)
                self.assertTrue(inspect.isfunction(getattr(holder, form.partition("(")[0])), form)

    def test_classes(self):
        for module, forms in CLASSES.items():
            holder = importlib.import_module("pebbletoll." + module)
            for form in forms:
                self.assertEqual(shape(holder, form), form)
                self.assertTrue(inspect.isclass(getattr(holder, form.partition("(")[0])), form)

    def test_methods_of_a_desk(self):
        for form in METHODS:
            self.assertEqual(shape(Desk, form), form)

    def test_a_web_has_no_method_but_the_making(self):
        own = [name for name, value in vars(Web).items() if callable(value)]
        self.assertEqual(own, ["__init__"])


if __name__ == "__main__":
    unittest.main()
