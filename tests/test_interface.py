"""[1]: the names of the interface, their arguments, and where they are defined."""

import importlib
import inspect
import unittest
from pathlib import Path

INTERFACE = {
    "lines": ("need_words(thing)", "fits(words, size)", "best(words, size)", "lines_of(words, breaking)",
              "many_breakings(words, size)", "breakings(words, size)", "breaking_at(words, size, number)",
              "number_of(words, size, breaking)"),
    "plans": ("need_spoken(thing)", "need_rules(thing)", "is_plan(spoken, rules, thing)", "least_ends(spoken, rules)",
              "plan(spoken, rules)", "plan_paper(spoken, rules)", "check_plan(spoken, rules, paper)",
              "least_late(spoken, rules)", "plan_file(spoken, rules, thing)"),
    "counts": ("are_possible(spoken, rules, counts)", "earliest(spoken, rules, counts)",
               "latest(spoken, rules, counts)", "bar(spoken, rules, counts)",
               "check_bar(spoken, rules, counts, thing)", "late_of(spoken, rules, counts)"),
    "fewest": ("fewest_cues(spoken, rules)", "fewest_paper(spoken, rules)", "check_fewest(spoken, rules, paper)",
               "many_cuts(spoken, rules)"),
    "files": ("need_file(thing)", "seen(file, frame)", "flat(file)", "is_flat(thing)", "alike(one, other)",
              "apart(one, other)", "laid(upper, lower)"),
    "strokes": ("fewest(file)", "fewest_file(file)", "strokes_paper(file)", "check_strokes(file, paper)"),
    "cuts": ("need_cuts(thing)", "length(cuts)", "source(cuts, frame)", "plain(cuts)", "alike_cuts(one, other)",
             "behind(first, second)", "carried(cuts, file)", "twice(cuts)", "lost(cuts, end)",
             "bringing(cuts, wanted)", "check_bringing(cuts, wanted, paper)", "bringing_paper(cuts, wanted)"),
    "mending": ("mended(file, end, least, gap)", "mending_paper(file, end, least, gap)",
                "check_mending(file, end, least, gap, paper)"),
    "rates": ("need_chain(thing)", "moved(chain, frame)", "slope(chain)", "period(chain)",
              "alike_chains(one, other)", "apart_chains(one, other)", "comes_back(chain)", "least_kept(chain)",
              "moved_file(chain, file)"),
    "texts": ("file_text(file)", "cuts_text(cuts)", "read_file(string)", "read_cuts(string)"),
    "decoders": ("need_screen(screen)", "blank(screen)", "is_code(screen, value)", "is_memory(screen, value)",
                 "is_state(screen, value)", "first_state(screen)", "step(screen, state, code)",
                 "led(screen, state, codes)", "pictures(screen, codes)"),
    "summaries": ("controls(screen)", "summary(screen, codes)", "is_summary(screen, value)",
                  "joined(screen, one, other)", "led_by(screen, summary, state)", "do_alike(screen, one, other)",
                  "apart(screen, one, other)"),
    "tuning": ("sure(screen, codes)", "settled(screen, head, ring, begin)",
               "settle_paper(screen, head, ring, begin)", "check_settle(screen, head, ring, begin, paper)"),
    "waking": ("knowledge(screen, codes)", "later(screen, value, code)", "waking(screen, choice)",
               "waking_paper(screen, choice)", "check_waking(screen, choice, paper)"),
    "zaps": ("good(screen, channels)", "zapped(screen, channels, zap)", "zap_paper(screen, channels)",
             "check_zap(screen, channels, paper)"),
    "losses": ("fair(screen, codes)", "loss_paper(screen, codes, most)", "check_loss(screen, codes, most, paper)",
               "least_loss(screen, codes)"),
    "sending": ("load(screen, text)", "picture_of(screen, text)", "text_of(screen, picture)",
                "send_paper(screen, cues)", "check_send(screen, cues, paper)", "put_off(screen, cues)",
                "shows(screen, codes)"),
    "receivers": ("under(receiver, deed)",),
    "tapes": ("stream_text(screen, codes)", "read_stream(screen, string)"),
}
CLASSES = {
    "errors": ("BadWords(number)", "BadSpoken(number)", "BadRules(number)", "BadFile(number)", "BadCuts(number)",
               "BadChain(number)", "BadSize(value)", "BadPaper(part)", "BadText(line)", "OutOfPlace(text)",
               "TooGreat(most)", "Nothing(text)", "BadCode(place)", "BadCues(number)"),
    "receivers": ("Receiver(screen, *, begin=None)",),
    "desk": ("Desk()",),
}
METHODS = {
    "Receiver": ("__call__(self, code)", "__len__(self)", "__contains__(self, code)", "__eq__(self, other)",
                 "sure(self, since)", "back(self, *, many=1)", "copy(self)", "trial(self)"),
    "Desk": ("say(self, line)",),
}
PROPERTIES = {"Receiver": ("screen", "begin", "state", "codes", "picture"), "Desk": ("cues", "stream")}
PACKAGE = Path(__file__).resolve().parent.parent / "captionhouse"


class Interface(unittest.TestCase):
    def look(self, module, told, isclass):
        name = told.partition("(")[0]
        thing = getattr(importlib.import_module("captionhouse." + module), name)
        self.assertEqual(name + str(inspect.signature(thing)), told)
        self.assertEqual(thing.__module__, "captionhouse." + module)
        self.assertEqual(inspect.isclass(thing), isclass)

    def test_functions(self):
        for module, functions in INTERFACE.items():
            for told in functions:
                self.look(module, told, False)

    def test_classes(self):
        for module, classes in CLASSES.items():
            for told in classes:
                self.look(module, told, True)

    def test_methods_stand_in_their_classes(self):
        for module, name in (("receivers", "Receiver"), ("desk", "Desk")):
            inside = vars(getattr(importlib.import_module("captionhouse." + module), name))
            for told in METHODS[name]:
                method = told.partition("(")[0]
                self.assertEqual(method + str(inspect.signature(inside[method])), told)
            for told in PROPERTIES[name]:
                self.assertIsInstance(inside[told], property)
                self.assertIsNone(inside[told].fset)

    def test_the_files_are_as_long_and_wide_as_they_may_be(self):
        for path in PACKAGE.glob("*.py"):
            text = path.read_text(encoding="ascii")
            self.assertLess(len(text.splitlines()), 400, path.name)
            self.assertLessEqual(max((len(line) for line in text.splitlines()), default=0), 120, path.name)
            self.assertNotIn("\t", text)
        self.assertEqual([path.name for path in PACKAGE.iterdir() if path.suffix != ".py"
                          and path.name != "__pycache__"], [])


if __name__ == "__main__":
    unittest.main()
