"""A test case that asks for errors with their fields."""

import unittest

from captionhouse.errors import BadPaper, BadRules, BadSpoken, OutOfPlace

class Equal:
    """Something that says it is equal to all things."""

    def __eq__(self, other):
        return True

    def __hash__(self):
        return hash("plan")


# Values of many kinds, none of them a tuple of as many things as is asked for anywhere.
ODD_THINGS = (None, True, False, 0, 1, -1, 10 ** 999, 1.5, "", "plan", b"plan", [], [()], {}, {1: 2}, {1}, object(),
              ValueError, (None,) * 7, ((),) * 7, range(3))


class Case(unittest.TestCase):
    def refused(self, error, field, value, call, *things, **named):
        """call raises just this error, whose field has this value."""
        with self.assertRaises(error) as caught:
            call(*things, **named)
        self.assertIs(caught.exception.__class__, error)
        self.assertEqual(getattr(caught.exception, field), value)
        self.assertEqual(isinstance(getattr(caught.exception, field), bool), isinstance(value, bool))

    def out_of_place(self, call, *things):
        self.assertRaises(OutOfPlace, call, *things)

    def bad_paper(self, part, call, *things):
        self.refused(BadPaper, "part", part, call, *things)

    def wants_spoken_and_rules(self, call, spoken, rules, *rest):
        """call refuses SPOKEN, then RULES, then what may come behind them."""
        bad_spoken = spoken[:-1] + (spoken[-1][:3] + (-1,),)
        bad_rules = (0,) + rules[1:]
        self.refused(BadSpoken, "number", len(spoken) - 1, call, bad_spoken, rules, *rest)
        self.refused(BadSpoken, "number", len(spoken) - 1, call, bad_spoken, bad_rules, *[None for _ in rest])
        self.refused(BadSpoken, "number", None, call, list(spoken), rules, *rest)
        self.refused(BadRules, "number", 0, call, spoken, bad_rules, *rest)
        self.refused(BadRules, "number", 0, call, spoken, bad_rules, *[None for _ in rest])
        self.refused(BadRules, "number", None, call, spoken, list(rules), *rest)
