"""[1]: arguments by position or by name, equal calls that return the same, and arguments that stay as they are."""

import copy
import importlib
import inspect
import unittest
from types import GeneratorType

from tests.test_interface import INTERFACE

WORDS = (("a", 0), ("bb", 0), ("c", 1), ("dd", 0))
SPOKEN = (("ab", 0, 10, 12), ("cd", 1, 12, 15), ("e", 0, 15, 18), ("fgh", 0, 30, 33))
RULES = (2, 6, 5, 20, 2, 2, 3, 4, 3)
TIGHT = RULES[:8] + (0,)
PLAN = ((3, 11, 18), (1, 26, 33))
COUNTS = (3, 1)
FILE = ((0, 9, ("a", "b c")), (3, 5, ("d",)), (20, 24, ("a", "b c")))
OTHER = ((4, 22, ("e",)),)
FLAT = ((2, 3, ("a",)), (5, 6, ("b",)), (9, 12, ("a",)))
CUTS = ((5, 8), (0, 2), (1, 4))
WANTED = ((0, 4), (6, 8))
CHAIN = ((24, 25, "near"), (25, 24, "up"))
SCREEN = (2, 3)
STATE = ("paint", 1, 2, ("abc", "def"), ("   ", "xyz"))
CODES = (("put", "a"), ("swap",), ("roll", 2), ("line",), ("at", 0, 2), ("put", "x"))
RING = (("wipe",), ("put", "a"))
CHOICE = (("put", "a"), ("swap",), ("wipe",))
CHANNELS = ((("put", "a"), ("swap",)), (("put", "b"), ("idle",)))
CUES = ((7, 9, ("a", "b")), (14, 20, ("c",)))
NEAR = ((4, 9, ("a", "b")), (12, 20, ("c",)))

# For each function some arguments; those that are results of another function are told by its name.
CALLS = {
    "lines": {"need_words": [(WORDS,)], "fits": [(WORDS, (2, 6)), (WORDS, (1, 3))], "best": [(WORDS, (2, 6))],
              "lines_of": [(WORDS, (2, 2))], "many_breakings": [(WORDS, (3, 6))], "breakings": [(WORDS, (3, 6))],
              "breaking_at": [(WORDS, (3, 6), 1), (WORDS, (3, 6), 99), (WORDS, (3, 6), -1)],
              "number_of": [(WORDS, (3, 6), (2, 2))]},
    "plans": {"need_spoken": [(SPOKEN,)], "need_rules": [(RULES,)],
              "is_plan": [(SPOKEN, RULES, PLAN), (SPOKEN, RULES, 0)],
              "least_ends": [(SPOKEN, RULES)], "plan": [(SPOKEN, RULES)],
              "plan_paper": [(SPOKEN, RULES), (SPOKEN, (1,) + RULES[1:])],
              "check_plan": [(SPOKEN, RULES, "plan_paper"), (SPOKEN, RULES, None)],
              "least_late": [(SPOKEN, RULES)], "plan_file": [(SPOKEN, RULES, "plan"), (SPOKEN, RULES, 0)]},
    "counts": {name: [(SPOKEN, RULES, COUNTS), (SPOKEN, TIGHT, (1, 2, 1)), (SPOKEN, RULES, (9,))]
               for name in ("are_possible", "earliest", "latest", "bar", "late_of")}
    | {"check_bar": [(SPOKEN, RULES, COUNTS, (0, 1, "left")), (SPOKEN, TIGHT, (1, 2, 1), (0, 0, "left"))]},
    "fewest": {"fewest_cues": [(SPOKEN, RULES)], "fewest_paper": [(SPOKEN, RULES)],
               "check_fewest": [(SPOKEN, RULES, "fewest_paper"), (SPOKEN, RULES, 0)], "many_cuts": [(SPOKEN, RULES)]},
    "files": {"need_file": [(FILE,)], "seen": [(FILE, 4), (FILE, 10), (FILE, -1)], "flat": [(FILE,)],
              "is_flat": [(FILE,), (FLAT,)], "alike": [(FILE, OTHER)], "apart": [(FILE, OTHER)],
              "laid": [(FILE, OTHER)]},
    "strokes": {"fewest": [(FILE,)], "fewest_file": [(FILE,)], "strokes_paper": [(FILE,)],
                "check_strokes": [(FILE, "strokes_paper"), (FILE, None)]},
    "cuts": {"need_cuts": [(CUTS,)], "length": [(CUTS,)], "source": [(CUTS, 4), (CUTS, 8)], "plain": [(CUTS,)],
             "alike_cuts": [(CUTS, WANTED)], "behind": [(CUTS, WANTED), (WANTED, CUTS)], "carried": [(CUTS, FILE)],
             "twice": [(CUTS,)], "lost": [(CUTS, 10)], "bringing": [(CUTS, WANTED), (WANTED, CUTS)],
             "check_bringing": [(CUTS, WANTED, "bringing_paper"), (CUTS, WANTED, None)],
             "bringing_paper": [(CUTS, WANTED), (WANTED, CUTS)]},
    "mending": {"mended": [(FLAT, 12, 3, 1), (FLAT, 12, 4, 1)], "mending_paper": [(FLAT, 12, 3, 1), (FLAT, 12, 4, 1)],
                "check_mending": [(FLAT, 12, 3, 1, "mending_paper"), (FLAT, 12, 4, 1, "mending_paper"),
                                  (FLAT, 12, 3, 1, 0)]},
    "rates": {"need_chain": [(CHAIN,)], "moved": [(CHAIN, 77)], "slope": [(CHAIN,)], "period": [(CHAIN,)],
              "alike_chains": [(CHAIN, CHAIN[::-1])], "apart_chains": [(CHAIN, CHAIN[::-1])], "comes_back": [(CHAIN,)],
              "least_kept": [(CHAIN,)], "moved_file": [(CHAIN, FILE)]},
    "texts": {"file_text": [(FILE,), (((0, 1, ("|",)),),)], "cuts_text": [(CUTS,)],
              "read_file": [("0 1 a|b",), ("0 1",)],
              "read_cuts": [("0 1\n3 4",), ("0",)]},
    "decoders": {"need_screen": [(SCREEN,), (0,)], "blank": [(SCREEN,)], "is_code": [(SCREEN, ("line",)), (SCREEN, 0)],
                 "is_memory": [(SCREEN, STATE[3]), (SCREEN, 0)], "is_state": [(SCREEN, STATE), (SCREEN, 0)],
                 "first_state": [(SCREEN,)], "step": [(SCREEN, STATE, ("line",)), (SCREEN, STATE, 0)],
                 "led": [(SCREEN, STATE, CODES), (SCREEN, STATE, (0,))], "pictures": [(SCREEN, CODES)]},
    "summaries": {"controls": [(SCREEN,)], "summary": [(SCREEN, CODES)], "is_summary": [(SCREEN, 0)],
                  "joined": [(SCREEN, "summary", "summary"), (SCREEN, 0, 0)], "led_by": [(SCREEN, "summary", STATE)],
                  "do_alike": [(SCREEN, CODES, RING)], "apart": [(SCREEN, CODES, RING)]},
    "tuning": {"sure": [(SCREEN, CODES)], "settled": [(SCREEN, CODES, RING, 3)],
               "settle_paper": [(SCREEN, CODES, RING, 3)],
               "check_settle": [(SCREEN, CODES, RING, 3, "settle_paper"), (SCREEN, CODES, RING, 3, 0)]},
    "waking": {"knowledge": [(SCREEN, CODES)], "later": [(SCREEN, "knowledge", ("line",)), (SCREEN, 0, 0)],
               "waking": [(SCREEN, CHOICE), (SCREEN, CHOICE[:1]), (SCREEN, CHOICE[::-1])],
               "waking_paper": [(SCREEN, CHOICE), (SCREEN, CHOICE[:1])],
               "check_waking": [(SCREEN, CHOICE, "waking_paper"), (SCREEN, CHOICE[:1], "waking_paper"),
                                (SCREEN, CHOICE, 0)]},
    "zaps": {"good": [(SCREEN, CHANNELS)], "zapped": [(SCREEN, CHANNELS, (1, 0, 0)), (SCREEN, CHANNELS, (2,))],
             "zap_paper": [(SCREEN, CHANNELS), (SCREEN, CHANNELS[1:])],
             "check_zap": [(SCREEN, CHANNELS, "zap_paper"), (SCREEN, CHANNELS[1:], "zap_paper"),
                           (SCREEN, CHANNELS, 0)]},
    "losses": {"fair": [(SCREEN, CODES)], "loss_paper": [(SCREEN, CODES, 1), (SCREEN, CODES[:1], 1)],
               "check_loss": [(SCREEN, CODES, 1, "loss_paper"), (SCREEN, CODES[:1], 1, "loss_paper"),
                              (SCREEN, CODES, 1, 0)],
               "least_loss": [(SCREEN, CODES)]},
    "sending": {"load": [(SCREEN, ("a", "bc")), (SCREEN, ())], "picture_of": [(SCREEN, ("a", "bc"))],
                "text_of": [(SCREEN, STATE[3]), (SCREEN, STATE[4]), (SCREEN, 0)],
                "send_paper": [(SCREEN, CUES), (SCREEN, NEAR), (SCREEN, CUES[::-1])],
                "check_send": [(SCREEN, CUES, "send_paper"), (SCREEN, NEAR, "send_paper"), (SCREEN, CUES, 0)],
                "put_off": [(SCREEN, CUES), (SCREEN, NEAR)], "shows": [(SCREEN, CODES)]},
    "receivers": {"under": [(0, len)]},
    "tapes": {"stream_text": [(SCREEN, CODES), (SCREEN, (0,))],
              "read_stream": [(SCREEN, "put a\nidle"), (SCREEN, "idle\nput")]},
}


def outcome(call, *things, **named):
    """What a call returns, or its error with all fields."""
    try:
        found = call(*things, **named)
        if isinstance(found, GeneratorType):
            found = list(found)
    except Exception as error:
        return ("raised", error.__class__, vars(error))
    return ("returned", found.__class__, found)


class Calls(unittest.TestCase):
    def all_calls(self):
        for module, functions in CALLS.items():
            functions_of = vars(importlib.import_module("captionhouse." + module))
            for name, all_things in functions.items():
                for things in all_things:
                    ahead = [thing for thing in things if not (isinstance(thing, str) and thing in functions_of)]
                    made = []
                    for thing in things:
                        if isinstance(thing, str) and thing in functions_of:
                            many = len(inspect.signature(functions_of[thing]).parameters)
                            told = [SCREEN, CODES] if thing in ("summary", "knowledge") else ahead[:many]
                            thing = functions_of[thing](*told)
                        made.append(thing)
                    yield functions_of[name], made

    def test_each_function_is_called(self):
        self.assertEqual({module: sorted(functions) for module, functions in CALLS.items()},
                         {module: sorted(told.partition("(")[0] for told in functions)
                          for module, functions in INTERFACE.items()})

    def test_by_name_as_by_position(self):
        for call, things in self.all_calls():
            expected = outcome(call, *things)
            self.assertNotIn(expected[1], (TypeError, KeyError, IndexError, AttributeError), call.__name__)
            names = list(inspect.signature(call).parameters)
            named = dict(zip(names, things))
            self.assertEqual(outcome(call, **named), expected, call.__name__)
            backwards = dict(list(named.items())[::-1])
            self.assertEqual(outcome(call, **backwards), expected, call.__name__)
            self.assertEqual(outcome(call, *things[:1], **{name: named[name] for name in names[1:]}), expected)

    def test_equal_calls_and_arguments_as_they_were(self):
        for call, things in self.all_calls():
            copies = copy.deepcopy(things)
            expected = outcome(call, *things)
            self.assertEqual(things, copies)
            self.assertEqual(outcome(call, *copies), expected, call.__name__)
            self.assertEqual(outcome(call, *things), expected, call.__name__)


if __name__ == "__main__":
    unittest.main()
