"""[22]: the desk, line by line, and what goes on between its lines."""

import time

from captionhouse.cuts import carried
from captionhouse.decoders import blank, first_state, led, pictures
from captionhouse.desk import Desk
from captionhouse.errors import OutOfPlace
from captionhouse.fewest import fewest_cues
from captionhouse.files import flat, seen
from captionhouse.plans import least_late, plan, plan_file
from captionhouse.rates import moved_file
from captionhouse.sending import send_paper, text_of
from captionhouse.strokes import fewest
from captionhouse.texts import file_text
from captionhouse.tuning import sure
from tests.brute import chance_of, some_file
from tests.helpers import ODD_THINGS, Case
from tests.laying import laid_by_hand

RULES = "rules 2 6 5 20 2 2 3 4 3"
NINE = (2, 6, 5, 20, 2, 2, 3, 4, 3)
WORDS = ("word ab 0 10 12", "word cd 1 12 15", "word e 0 15 18", "word fgh 0 30 33")
SPOKEN = (("ab", 0, 10, 12), ("cd", 1, 12, 15), ("e", 0, 15, 18), ("fgh", 0, 30, 33))
GREAT = 10 ** 12
# Lines of a number too many, too few, or none at all, with blanks where none may be.
NEVER = ("", " ", "x", "no", "done", "Word a 0 0 1", "fresh ", " fresh", "fresh 0", "FRESH", "plan ", " plan", "plan 0",
         "plan\n", "late 1", "late ", "fewest 1", "fewest  ", "file x", "file ", "bare 1", "bare ", "strokes 1",
         "strokes ", "send 1", "send ", "say", "cues", "stream", "fresh\nfresh", "plan\tx", "__class__", "say plan")


class DeskCase(Case):
    def told(self, *lines):
        desk = Desk()
        for line in lines:
            self.assertEqual(desk.say(line), "done", line)
        return desk

    def says(self, desk, line, answer):
        self.assertEqual(desk.say(line), answer, line)

    def tells(self, desk):
        """All that a desk answers, when nothing else is told between."""
        lines = ("plan", "late", "fewest", "strokes", "seen 0", "seen 5", "seen 30", "show 0", "show 9", "tune 0 9",
                 "show 1999")
        return (desk.cues, desk.stream, *[desk.say(line) for line in lines])

    def no(self, desk, *lines):
        """Each of the lines is answered with "no", and changes nothing."""
        ahead = self.tells(desk)
        for line in lines:
            self.assertEqual(desk.say(line), "no", line)
        self.assertEqual(self.tells(desk), ahead)


def full_desk():
    """A desk with all that there can be."""
    desk = Desk()
    for line in WORDS + (RULES, "cue 9 12 ab|c", "cue 40 50 d", "screen 2 3", "send"):
        assert desk.say(line) == "done", line
    return desk


class Strings(DeskCase):
    def test_what_is_no_string(self):
        desk = full_desk()
        for thing in (*ODD_THINGS, b"plan", ("plan",), ["plan"]):
            if not isinstance(thing, str):
                ahead = (desk.cues, desk.stream)
                with self.assertRaises(OutOfPlace) as caught:
                    desk.say(thing)
                self.assertIs(caught.exception.__class__, OutOfPlace)
                self.assertEqual((desk.cues, desk.stream), ahead)

    def test_what_is_no_line(self):
        self.no(Desk(), *NEVER)
        self.no(full_desk(), *NEVER)
        self.assertEqual(Desk().say(line="bare"), "done")

    def test_a_desk_at_first(self):
        desk = Desk()
        self.assertEqual((desk.cues, desk.stream), ((), None))
        self.no(desk, "plan", "late", "fewest", "file", "send", "show 0", "tune 0 0")
        self.says(desk, "seen 0", "none")
        self.says(desk, "strokes", "0")
        for name in ("cues", "stream"):
            self.assertIsInstance(vars(Desk)[name], property)
            with self.assertRaises(AttributeError):
                setattr(desk, name, None)
        self.assertIn("say", vars(Desk))
        # Two desks go on by themselves.
        other = Desk()
        self.says(other, "cue 0 1 a", "done")
        self.assertEqual((desk.cues, other.cues), ((), ((0, 1, ("a",)),)))


class Words(DeskCase):
    def test_what_can_be_one(self):
        desk = Desk()
        for line in ("word a 0 0 0", "word a 1 0 0", "word ! 0 5 6", "word " + "x" * 40 + " 0 1000000000 1000000000",
                     "word word 0 0 1000000000", "word | 1 7 9", "word 0 0 0 0"):
            self.says(desk, line, "done")

    def test_what_can_be_none(self):
        wrong = ["word", "word ", "word a", "word a 0", "word a 0 0", "word a 0 0 0 0", "word  a 0 0 0",
                 "word a  0 0 0",
                 "word a 0 0 0 ", " word a 0 0 0", "word  0 0 0", "word a 2 0 0", "word a -1 0 0", "word a 00 0 0",
                 "word a 01 0 0", "word a 0 00 1", "word a 0 1 01", "word a 0 1 0", "word a 0 5 4", "word a 0 -1 4",
                 "word a x 0 0", "word a 0 x 0", "word a 0 0 x", "word a 0 0 1000000001",
                 "word a 0 1000000001 1000000002",
                 "word a 0 0 10000000000000", "word a 0 0 " + "1" * 5000, "word " + "x" * 41 + " 0 0 0",
                 "word a% 0 0 0",
                 "word % 0 0 0", "word a\x7f 0 0 0", "word \xe9 0 0 0", "word a\n 0 0 0", "word a 0 0 0\n",
                 "word a True 0 0", "word a 0 0.0 1", "word a 0 +0 1", "word a b 0 0 1", "word a 0 0 \u0661",
                 "words a 0 0 0"]
        self.no(self.told(*WORDS, RULES), *wrong)
        self.no(full_desk(), *wrong)

    def test_they_stand_in_turn(self):
        desk = self.told(RULES, *WORDS)
        self.says(desk, "plan", " ".join(f"{count}-{start}-{end}" for count, start, end in plan(SPOKEN, NINE)))
        # A word that begins ahead of the last one can be one by itself, but not all of them together.
        self.says(desk, "word x 0 29 33", "done")
        self.no(desk, "plan", "late", "fewest", "file")
        self.says(desk, "fresh", "done")
        self.no(desk, "plan")
        for line in WORDS[:2]:
            self.says(desk, line, "done")
        # The last one holds.
        self.no(desk, "plan", "late", "fewest", "file")
        self.says(desk, WORDS[2], "done")
        self.assertNotEqual(desk.say("plan"), "no")

    def test_sixty_words_and_one_more(self):
        desk = self.told("rules 4 40 1 100 0 9 1 50 50", *[f"word a 0 {k} {k}" for k in range(60)])
        spoken = tuple(("a", 0, k, k) for k in range(60))
        rules = (4, 40, 1, 100, 0, 9, 1, 50, 50)
        self.says(desk, "plan", " ".join("-".join(map(str, cue)) for cue in plan(spoken, rules)))
        self.says(desk, "fewest", str(fewest_cues(spoken, rules)))
        self.says(desk, "word b 0 70 70", "done")
        self.no(desk, "plan", "late", "fewest", "file")
        self.says(desk, "fresh", "done")
        self.says(desk, "word b 0 70 70", "done")
        self.says(desk, "plan", "1-20-70")


class Rules(DeskCase):
    def test_right_and_wrong(self):
        desk = self.told(*WORDS)
        for line in (RULES, "rules 4 40 1000000000 1000000000 0 1 0 0 0", "rules 1 1 1 1 0 1 0 0 0",
                     "rules 1 1 1 1 1000000000 1000000000 1000000000 1000000000 1000000000"):
            self.says(desk, line, "done")
        self.says(desk, RULES, "done")
        right = RULES.split(" ")[1:]
        wrong = ["rules", "rules ", RULES + " ", RULES + " 1", " " + RULES, RULES.replace(" ", "  ", 1),
                 "rules " + " ".join(right[:-1]), RULES + "\n", "rules 2 6 5 4 2 2 3 4 3", "rules 5 6 5 20 2 2 3 4 3",
                 "rules 2 41 5 20 2 2 3 4 3", "rules 0 6 5 20 2 2 3 4 3", "rules 2 0 5 20 2 2 3 4 3",
                 "rules 2 6 0 20 2 2 3 4 3", "rules 2 6 5 20 2 0 3 4 3"]
        for place in range(9):
            for figures in ("x", "-1", "", "0" + right[place], "1000000001", "9" * 13, "9" * 14, "1" * 5000, "1.0",
                            "+1"):
                wrong.append("rules " + " ".join(right[:place] + [figures] + right[place + 1:]))
        self.no(desk, *wrong)
        self.says(desk, "plan", " ".join(f"{count}-{start}-{end}" for count, start, end in plan(SPOKEN, NINE)))

    def test_the_new_ones_hold(self):
        desk = self.told(*WORDS, RULES)
        self.says(desk, "plan", "1-6-12 2-14-20 1-26-33")
        self.says(desk, "rules 2 2 5 20 2 2 3 4 3", "done")
        self.assertIsNone(plan(SPOKEN, (2, 2) + NINE[2:]))
        self.says(desk, "plan", "none")
        self.says(desk, "rules 2 6 8 20 2 2 3 4 3", "done")
        self.says(desk, "plan", "3-11-22 1-26-34")


class Plans(DeskCase):
    def test_by_hand(self):
        desk = self.told(*WORDS, RULES)
        self.says(desk, "plan", "1-6-12 2-14-20 1-26-33")
        self.says(desk, "late", str(least_late(SPOKEN, NINE)))
        self.says(desk, "fewest", str(fewest_cues(SPOKEN, NINE)))
        self.says(desk, "file", "done")
        self.assertEqual(desk.cues, plan_file(SPOKEN, NINE, plan(SPOKEN, NINE)))
        self.assertEqual(desk.cues, ((6, 12, ("ab",)), (14, 20, ("cd e",)), (26, 33, ("fgh",))))

    def test_without_a_plan(self):
        desk = self.told(*WORDS, "rules 2 2 5 20 2 2 3 4 3", "cue 0 1 a")
        for line in ("plan", "late", "fewest", "file"):
            self.says(desk, line, "none")
        self.assertEqual(desk.cues, ((0, 1, ("a",)),))
        desk = self.told(*WORDS, "rules 2 6 5 20 2 2 3 4 0", "cue 0 1 a")
        self.assertEqual(desk.say("plan") == "none", plan(SPOKEN, NINE[:8] + (0,)) is None)
        self.says(desk, "late", str(least_late(SPOKEN, NINE)))

    def test_without_words_or_rules(self):
        wanting = ("plan", "late", "fewest", "file")
        self.no(Desk(), *wanting)
        self.no(self.told(*WORDS), *wanting)
        self.no(self.told(RULES), *wanting)
        self.no(self.told(*WORDS[:2], RULES), *wanting)
        self.no(self.told(*WORDS, RULES, "fresh"), *wanting)

    def test_the_file_goes_in_for_the_cues(self):
        desk = full_desk()
        codes = desk.stream
        self.says(desk, "file", "done")
        self.assertEqual(desk.cues, ((6, 12, ("ab",)), (14, 20, ("cd e",)), (26, 33, ("fgh",))))
        # The stream is still the one of the cues that were sent.
        self.assertIs(desk.stream, codes)


class Cues(DeskCase):
    def test_one_more(self):
        desk = Desk()
        self.says(desk, "cue 5 9 a b|c", "done")
        self.says(desk, "cue 0 1000000000000 a  b", "done")
        self.says(desk, "cue 0 1 " + "x" * 40 + "|y|z|0 1 a", "done")
        self.assertEqual(desk.cues, ((5, 9, ("a b", "c")), (0, GREAT, ("a  b",)),
                                     (0, 1, ("x" * 40, "y", "z", "0 1 a"))))
        self.says(desk, "bare", "done")
        self.assertEqual(desk.cues, ())
        self.says(desk, "seen 6", "none")

    def test_what_is_no_cue(self):
        wrong = ["cue", "cue ", "cue 0", "cue 0 1", "cue 0 1 ", "cue  0 1 a", "cue 0  1 a", "cue 0 1  a", "cue 0 1 a ",
                 " cue 0 1 a", "cue 0 1 a|", "cue 0 1 |a", "cue 0 1 a||b", "cue 0 1 a| b", "cue 0 1 a|b|c|d|e",
                 "cue 0 1 " + "a" * 41, "cue 1 1 a", "cue 2 1 a", "cue 00 1 a", "cue 0 01 a", "cue -1 1 a", "cue x 1 a",
                 "cue 0 x a", "cue 0 1000000000001 a", "cue 0 10000000000000 a", "cue 0 " + "1" * 5000 + " a",
                 "cue 0 1 a%", "cue 0 1 a\n", "cue 0 1 a\nb", "cue 0 1 a\n0 1 b", "cue 0 1 \xe9", "cue 0 1 \x7f",
                 "cue 0\t1\ta", "cues 0 1 a"]
        self.no(Desk(), *wrong)
        self.no(full_desk(), *wrong)

    def test_sixty_cues_and_one_more(self):
        desk = self.told(*[f"cue {k} {k + 1} a" for k in range(60)])
        cues = tuple((k, k + 1, ("a",)) for k in range(60))
        self.assertEqual(desk.cues, cues)
        self.no(desk, "cue 0 1 a", "cue 70 71 b")
        self.assertEqual(desk.cues, cues)
        self.says(desk, "bare", "done")
        self.says(desk, "cue 0 1 a", "done")

    def test_seen(self):
        desk = self.told("cue 5 9 a b|c", "cue 7 20 d", "cue 0 1000000000000 e")
        for line, answer in (("seen 0", "e"), ("seen 4", "e"), ("seen 5", "a b|c"), ("seen 6", "a b|c"), ("seen 7",
                                                                                                          "d"),
                             ("seen 19", "d"), ("seen 20", "e"), ("seen 999999999999", "e"), ("seen 1000000000000",
                                                                                              "none")):
            self.says(desk, line, answer)
        wrong = ("seen", "seen ", "seen x", "seen -1", "seen 1000000000001", "seen 9999999999999",
                 "seen 10000000000000",
                 "seen 00", "seen 05", "seen 5 ", "seen  5", "seen 5 6", "seen " + "1" * 5000, "seen 5.0",
                 "seen \u0665")
        self.no(desk, *wrong)

    def test_strokes(self):
        self.says(self.told("cue 0 2 a", "cue 2 4 b", "cue 4 6 a"), "strokes", "2")
        self.says(Desk(), "strokes", "0")
        chance = chance_of(240)
        for _ in range(20):
            file = some_file(chance, 8, 12, "abc")
            desk = self.told(*["cue " + line for line in file_text(file).split("\n") if line])
            self.assertEqual(desk.cues, file)
            self.says(desk, "strokes", str(fewest(file)))
            for frame in range(14):
                text = seen(file, frame)
                self.says(desk, f"seen {frame}", "none" if text is None else "|".join(text))


class Cuts(DeskCase):
    def test_carried(self):
        chance = chance_of(241)
        for many in range(1, 11):
            for _ in range(10):
                file = some_file(chance, 6, 20, "ab")
                desk = self.told(*["cue " + line for line in file_text(file).split("\n") if line])
                cuts = tuple((start, start + chance.randint(1, 6)) for start in chance.choices(range(20), k=many))
                line = "cut " + " ".join(f"{start} {end}" for start, end in cuts)
                expected = carried(cuts, file)
                if len(expected) > 60:
                    self.no(desk, line)
                else:
                    self.says(desk, line, "done")
                    self.assertEqual(desk.cues, expected)
        desk = self.told("cue 0 6 a", "cut 5 8 0 2")
        self.assertEqual(desk.cues, ((0, 1, ("a",)), (3, 5, ("a",))))
        self.assertEqual(self.told("cut 0 1").cues, ())

    def test_numbers(self):
        desk = self.told("cue 0 100 a")
        for many in range(0, 24):
            line = " ".join(["cut"] + ["0", "1"] * (many // 2) + ["5"] * (many % 2))
            if 2 <= many <= 20 and many % 2 == 0:
                self.says(self.told("cue 0 100 a"), line, "done")
            else:
                self.no(desk, line)
        self.no(desk, "cut ", "cut 0 1 ", "cut  0 1", "cut 0  1", "cut 0 0", "cut 1 0", "cut x 1", "cut 0 x",
                "cut 00 1",
                "cut 0 01", "cut -1 1", "cut 0 1000000000001", "cut 0 9999999999999", "cut 0 10000000000000",
                "cut 0 500000000000 0 500000000001", "cut 0 1 5 5", "cut 0-1", "cut 0 1\n", "cut 0 " + "1" * 5000)
        self.says(desk, "cut 0 500000000000 0 500000000000", "done")
        self.assertEqual(desk.cues, ((0, 100, ("a",)), (500000000000, 500000000100, ("a",))))
        self.assertEqual(self.told("cue 5 6 a", "cut 0 1000000000000").cues, ((5, 6, ("a",)),))

    def test_more_than_sixty(self):
        """Cuts that would make more than sixty cues of thirty and more."""
        lines = [f"cue {2 * k} {2 * k + 1} a" for k in range(31)]
        self.no(self.told(*lines), "cut 0 61 0 61", "cut 0 61 0 61 0 61")
        desk = self.told(*lines[:30], "cut 0 60 0 60")
        self.assertEqual(len(desk.cues), 60)
        self.no(desk, "cut 0 60 0 60 0 60", "cue 0 1 a")
        self.says(desk, "cut 0 59 59 60", "done")
        self.assertEqual(desk.cues, tuple((2 * k, 2 * k + 1, ("a",)) for k in range(30)))
        # One cue that is seen between sixty others.
        desk = self.told("cue 0 1000 z", *[f"cue {4 * k + 1} {4 * k + 2} a" for k in range(59)])
        self.assertEqual(len(flat(desk.cues)), 119)
        self.no(desk, "cut 0 1000")
        self.says(desk, "cut 0 118", "done")
        self.assertEqual(len(desk.cues), 60)


class Rates(DeskCase):
    def test_moved(self):
        chance = chance_of(242)
        for _ in range(60):
            file = some_file(chance, 6, 30, "ab")
            desk = self.told(*["cue " + line for line in file_text(file).split("\n") if line])
            step = (chance.randint(1, 40), chance.randint(1, 40), chance.choice(("down", "up", "near")))
            self.says(desk, "rate {} {} {}".format(*step), "done")
            self.assertEqual(desk.cues, moved_file((step,), file))
        desk = self.told("cue 0 1 a", "cue 3 9 b", "rate 1 2 down")
        # The one whose frames come together vanishes.
        self.assertEqual(desk.cues, ((1, 4, ("b",)),))
        self.says(desk, "rate 1 2000 down", "done")
        self.assertEqual(desk.cues, ())
        self.says(desk, "rate 2000 1 up", "done")

    def test_right_and_wrong(self):
        desk = self.told("cue 10 20 a")
        self.no(desk, "rate", "rate ", "rate 1 2", "rate 1 2 ", "rate 1 2 Down", "rate 1 2 down ", "rate  1 2 down",
                "rate 1  2 down", "rate 1 2 down up", "rate 1 2 3", "rate down 1 2", "rate 0 1 down", "rate 1 0 down",
                "rate 2001 1 up", "rate 1 2001 up", "rate 01 1 up", "rate 1 01 up", "rate -1 1 up", "rate 1 1 1 up",
                "rate x 1 up", "rate 1.5 1 up", "rate 1 1 down\n", "rate 9999999999999 1 up",
                "rate 10000000000000 1 up")
        self.says(desk, "rate 2000 2000 near", "done")
        self.says(desk, "rate 2000 1 near", "done")
        self.assertEqual(desk.cues, ((20000, 40000, ("a",)),))

    def test_beyond_the_last_frame(self):
        desk = self.told("cue 0 500000000000 a")
        self.says(desk, "rate 2 1 up", "done")
        self.assertEqual(desk.cues, ((0, GREAT, ("a",)),))
        self.no(desk, "rate 2 1 up", "rate 1001 1000 near")
        self.says(desk, "rate 1 1 up", "done")
        self.says(desk, "rate 999 1000 down", "done")
        self.assertEqual(desk.cues, ((0, 999000000000, ("a",)),))


class Streams(DeskCase):
    def test_screens(self):
        desk = Desk()
        for line in ("screen 1 1", "screen 4 40", "screen 2 6"):
            self.says(desk, line, "done")
        wrong = ("screen", "screen ", "screen 1", "screen 1 ", "screen 0 1", "screen 1 0", "screen 5 1", "screen 1 41",
                 "screen 01 1", "screen 1 01", "screen 1 1 ", "screen  1 1", "screen 1  1", "screen 1 1 1",
                 "screen x 1",
                 "screen 1 x", "screen -1 1", "screen 1,1", "screen 1 1\n", "screen 1 10000000000000", " screen 1 1")
        self.no(desk, *wrong)
        self.no(full_desk(), *wrong)

    def test_what_goes_with_a_new_screen(self):
        for line in ("screen 2 3", "screen 4 40", "screen 1 1"):
            desk = full_desk()
            self.assertIsNotNone(desk.stream)
            cues = desk.cues
            self.says(desk, line, "done")
            self.assertIsNone(desk.stream)
            self.assertEqual(desk.cues, cues)
            self.no(desk, "show 0", "tune 0 0")
        desk = full_desk()
        codes = desk.stream
        self.no(desk, "screen 0 1")
        self.assertIs(desk.stream, codes)

    def test_sent(self):
        desk = self.told("screen 2 3", "cue 30 40 d", "cue 9 12 ab|c")
        self.says(desk, "send", "done")
        self.assertEqual(desk.stream, laid_by_hand(((9, 12, ("ab", "c")), (30, 40, ("d",)))))
        # The cues stand as they did.
        self.assertEqual(desk.cues, ((30, 40, ("d",)), (9, 12, ("ab", "c"))))
        for frame, picture in enumerate(pictures((2, 3), desk.stream)):
            text = text_of((2, 3), picture)
            self.says(desk, f"show {frame}", "none" if text is None else "|".join(text))
        self.says(desk, "show 8", "none")
        self.says(desk, "show 9", "ab|c")
        self.says(desk, "show 11", "ab|c")
        self.says(desk, "show 12", "none")
        self.says(desk, "show 39", "d")
        self.says(desk, "show 40", "none")
        self.no(desk, "show 41", "show", "show ", "show x", "show -1", "show 00", "show 09", "show 9 ", "show  9",
                "show 9 9", "show 9999999999999", "show 10000000000000", "show " + "1" * 5000)

    def test_flat_cues(self):
        """Cues over one another and cues that touch are sent as they are seen."""
        desk = self.told("screen 1 1", "cue 10 30 a", "cue 18 24 b", "cue 30 40 a", "send")
        self.assertEqual(desk.stream, laid_by_hand(((10, 18, ("a",)), (18, 24, ("b",)), (24, 40, ("a",)))))
        self.says(desk, "show 20", "b")
        self.says(desk, "show 35", "a")
        desk = self.told("screen 1 1", "cue 10 30 a", "cue 18 20 b")
        self.says(desk, "send", "short 2")
        self.assertIsNone(desk.stream)

    def test_short(self):
        desk = self.told("screen 1 1", "cue 4 5 a", "send")
        codes = desk.stream
        self.says(desk, "cue 6 9 b", "done")
        self.says(desk, "send", "short 1")
        self.assertIs(desk.stream, codes)
        self.says(desk, "cue 0 1 b", "done")
        self.says(desk, "send", "short 0")
        self.assertIs(desk.stream, codes)
        self.says(desk, "show 4", "a")

    def test_what_cannot_be_sent(self):
        """What no SENDABLE CUES are: too wide, too many rows, too late."""
        for lines in (("cue 10 20 ab",), ("cue 10 20 a|b",), ("cue 10 2000 a",), ("cue 2000 2001 a",), ("cue 4 5 a",
                                                                                                        "cue 6 9 ab")):
            desk = self.told("screen 1 1", "cue 4 5 c", "send", "bare", *lines)
            codes = desk.stream
            self.no(desk, "send")
            self.assertIs(desk.stream, codes)
        desk = self.told("screen 1 1", "cue 10 1999 a", "send")
        self.assertEqual(len(desk.stream), 2000)
        self.says(desk, "show 1998", "a")
        self.says(desk, "show 1999", "none")
        self.no(desk, "show 2000")
        # Some that are covered do not matter.
        self.says(self.told("screen 1 1", "cue 10 20 ab", "cue 10 20 a"), "send", "done")
        self.no(Desk(), "send")
        self.no(self.told("cue 9 10 a"), "send")

    def test_without_cues(self):
        desk = self.told("screen 1 1", "send")
        self.assertEqual(desk.stream, ())
        self.assertIsNotNone(desk.stream)
        self.no(desk, "show 0", "tune 0 0")

    def test_the_very_tuples(self):
        desk = full_desk()
        self.assertIs(desk.cues, desk.cues)
        self.assertIs(desk.stream, desk.stream)
        self.assertIsInstance(desk.cues, tuple)
        self.assertIsInstance(desk.stream, tuple)
        ahead = desk.cues
        desk.say("cue 0 1 z")
        self.assertEqual(ahead, ((9, 12, ("ab", "c")), (40, 50, ("d",))))

    def test_odd(self):
        """No stream that was sent shows what has no TEXT; another one may."""
        desk = full_desk()
        answers = {desk.say(f"show {frame}") for frame in range(51)}
        self.assertEqual(answers, {"none", "ab|c", "d"})
        desk._board.tape = (("paint",), ("at", 0, 1), ("put", "a"), ("at", 0, 0), ("put", "b"))
        for frame, answer in enumerate(("none", "none", "odd", "odd", "ba")):
            self.says(desk, f"show {frame}", answer)


class Tuning(DeskCase):
    def test_all_beginnings(self):
        for size, lines in (("screen 2 3", ("cue 9 12 ab|c", "cue 40 50 d")), ("screen 1 1", ("cue 4 6 a",
                                                                                              "cue 10 11 b")),
                            ("screen 3 4", ("cue 20 25 abcd|e|f",))):
            desk = self.told(size, *lines, "send")
            screen = tuple(int(part) for part in size.split(" ")[1:])
            last = len(desk.stream) - 1
            for begin in sorted({0, 1, 2, 5, last // 2, last - 1, last}):
                for frame in sorted({begin, begin + 1, begin + 9, last} & set(range(last + 1))):
                    rows = sure(screen, desk.stream[begin:frame + 1])
                    many = sum(row.count(None) for row in rows)
                    self.says(desk, f"tune {begin} {frame}", str(many) if many else "sure")

    def test_by_hand(self):
        desk = self.told("screen 1 2", "cue 5 7 ab", "send")
        self.says(desk, "tune 0 0", "2")
        self.says(desk, "tune 0 4", "2")
        self.says(desk, "tune 0 5", "sure")
        self.says(desk, "tune 1 5", "2")
        # The clear alone will do where the MODE is "hide", which is not sure.
        self.says(desk, "tune 5 5", "2")
        self.says(desk, "tune 7 7", "sure")
        self.says(desk, "tune 6 7", "sure")
        self.no(desk, "tune 8 8", "tune 0 8", "tune 6 5", "tune 7 0", "tune", "tune ", "tune 0", "tune 0 ", "tune 0 0 ",
                "tune  0 0", "tune 0  0", "tune 0 0 0", "tune x 0", "tune 0 x", "tune 00 0", "tune 0 00", "tune -1 0",
                "tune 0 -1", "tune 0 10000000000000", "tune 0 9999999999999", "tune 9 8", "tune 8 7")

    def test_screens(self):
        for size in ("1 12", "2 6", "3 4", "4 3"):
            desk = self.told("screen " + size, "cue 9 12 a", "send")
            self.says(desk, "tune 0 12", "sure")
            self.says(desk, "tune 12 12", "sure")
            self.says(desk, "tune 0 0", "12")
        for size in ("1 13", "2 7", "4 4", "4 40"):
            desk = self.told("screen " + size, "cue 9 12 a", "send")
            self.no(desk, "tune 0 12", "tune 12 12", "tune 0 0", "tune 13 13")
            self.says(desk, "show 9", "a")


class Long(DeskCase):
    def test_all_lines_in_any_order(self):
        """A long talk, against what the package's own functions tell of words, rules, cues, screen and stream."""
        chance = chance_of(243)
        counted = {}
        for _ in range(40):
            desk = Desk()
            held = {"spoken": [], "rules": None, "cues": (), "screen": None, "stream": None}
            for _ in range(100):
                line = self.some_line(chance)
                expected = self.answered(held, line)
                self.says(desk, line, expected)
                self.assertEqual((desk.cues, desk.stream), (held["cues"], held["stream"]))
                key = (line.split(" ")[0], expected.split(" ")[0] if expected in ("no", "done", "none") else "told")
                counted[key] = counted.get(key, 0) + 1
        for word in ("word", "fresh", "cue", "bare", "cut", "rate", "screen", "send", "file", "rules"):
            self.assertGreater(counted.get((word, "done"), 0), 0, word)
        for word in ("plan", "late", "fewest", "seen", "strokes", "show", "tune"):
            self.assertGreater(counted.get((word, "told"), 0), 0, word)

    def some_line(self, chance):
        number = chance.randrange(40)
        return chance.choice((
            "word {} {} {} {}".format(chance.choice(("a", "bcd", "ef")), int(chance.random() < 0.2), number,
                                      number + 3),
            "fresh", "plan", "late", "fewest", "file", "bare", f"seen {number}", "strokes", "send", f"show {number}",
            f"tune {number} {number + chance.randrange(9)}", "cut {} {}".format(number, number + 60), "cut 0 30 10 60",
            "cut 3", f"cue {chance.randint(8, 25)} {chance.randint(26, 40)} a|b",
                              f"cue {number} {number + chance.randrange(12)} {chance.choice(('a', 'b|c', 'de'))}",
            f"cue {number} {number + 5} ab", "rules 2 6 2 60 0 5 1 40 40", "rules 1 2 3", "rate {} {} {}".format(
                chance.randint(0, 3), chance.randint(1, 3), chance.choice(("down", "up", "near"))),
            "screen 2 3", "screen 2 7", "fresh x", "send", "send", "bare"))

    def answered(self, held, line):
        word, *parts = line.split(" ")
        numbers = [int(part) for part in parts if part.isdigit()]
        spoken, rules = tuple(held["spoken"]), held["rules"]
        in_turn = all(ahead[2] <= behind[2] for ahead, behind in zip(spoken, spoken[1:]))
        has_words = rules is not None and 1 <= len(spoken) <= 60 and in_turn and spoken[-1][1] == 0
        answer = "done"
        if word == "word":
            held["spoken"].append((parts[0], *numbers))
        elif line == "fresh":
            held["spoken"] = []
        elif word == "rules" and len(numbers) == 9:
            held["rules"] = tuple(numbers)
        elif word in ("plan", "late", "fewest", "file") and has_words:
            found = plan(spoken, rules)
            if word == "late":
                found = least_late(spoken, rules)
                return "none" if found is None else str(found)
            if found is None:
                return "none"
            if word == "plan":
                return " ".join("-".join(str(part) for part in cue) for cue in found)
            if word == "fewest":
                return str(fewest_cues(spoken, rules))
            held["cues"] = plan_file(spoken, rules, found)
        elif word == "bare":
            held["cues"] = ()
        elif word == "seen":
            text = seen(held["cues"], numbers[0])
            return "none" if text is None else "|".join(text)
        elif word == "strokes":
            return str(fewest(held["cues"]))
        elif word == "cue" and numbers[0] < numbers[1] and len(held["cues"]) < 60:
            held["cues"] += ((*numbers[:2], tuple(parts[2].split("|"))),)
        elif word == "cut" and len(numbers) % 2 == 0:
            found = carried(tuple(zip(numbers[::2], numbers[1::2])), held["cues"])
            if len(found) > 60:
                return "no"
            held["cues"] = found
        elif word == "rate" and numbers[0] > 0:
            held["cues"] = moved_file(((*numbers, parts[2]),), held["cues"])
        elif word == "screen":
            held["screen"], held["stream"] = tuple(numbers), None
        elif word == "send" and held["screen"] is not None:
            cues = flat(held["cues"])
            if any(end > 1999 or len(text) > 2 or max(map(len, text)) > held["screen"][1] for _, end, text in cues):
                return "no"
            word, found = send_paper(held["screen"], cues)
            if word == "short":
                return f"short {found}"
            held["stream"] = found
        elif word == "show" and held["stream"] is not None and numbers[0] < len(held["stream"]):
            picture = pictures(held["screen"], held["stream"])[numbers[0]]
            return "none" if picture == blank(held["screen"]) else "|".join(text_of(held["screen"], picture))
        elif (word == "tune" and held["stream"] is not None and numbers[1] < len(held["stream"])
              and held["screen"] == (2, 3)):
            rows = sure(held["screen"], held["stream"][numbers[0]:numbers[1] + 1])
            return str(sum(row.count(None) for row in rows) or "sure")
        else:
            answer = "no"
        return answer

    def test_greatest_sizes(self):
        begun = time.monotonic()
        desk = self.told("screen 4 40", *[f"cue {33 * k + 29} {33 * k + 33} {'x' * 10}|y" for k in range(59)])
        self.says(desk, "send", "done")
        self.assertEqual(len(desk.stream), 33 * 58 + 34)
        for frame in range(0, len(desk.stream), 50):
            self.assertIn(desk.say(f"show {frame}"), ("none", "x" * 10 + "|y"))
        desk = self.told("screen 3 4", "cue 1990 1999 abcd|efgh|ijkl", "send")
        self.says(desk, "show 1990", "abcd|efgh|ijkl")
        self.says(desk, "tune 0 1999", "sure")
        self.says(desk, "tune 1999 1999", "sure")
        self.says(desk, "tune 1999 0", "no")
        for _ in range(2000):
            desk.say("word a 0 0 0")
        self.says(desk, RULES, "done")
        self.no(desk, "plan")
        self.says(desk, "x" * 40000, "no")
        self.says(desk, "cut " + "1 " * 19000, "no")
        self.says(desk, "seen " + "1" * 39000, "no")
        self.assertEqual(led((3, 4), first_state((3, 4)), desk.stream)[3], blank((3, 4)))
        self.assertLess(time.monotonic() - begun, 60)
