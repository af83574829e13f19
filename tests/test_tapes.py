"""[22]: the texts of streams, written and read."""

import time

from captionhouse.decoders import is_code
from captionhouse.errors import BadCode, BadSize, BadText
from captionhouse.tapes import read_stream, stream_text
from tests.brute import chance_of
from tests.helpers import ODD_THINGS, Case
from tests.streams import SIGNS, all_codes, some_codes
from tests.test_decoders import BAD_CODES, BAD_SCREENS, SCREENS

IDLE = ("idle",)


class Written(Case):
    def test_by_hand(self):
        self.assertEqual(stream_text((1, 1), ()), "")
        codes = (("put", "a"), ("put", " "), ("put", "1"), ("at", 0, 0), ("at", 3, 39), ("hide",), ("paint",),
                 ("roll", 4), ("line",), ("swap",), ("wipe",), ("clear",), ("rub",), ("tail",), ("idle",))
        text = ("put a\nput  \nput 1\nat 0 0\nat 3 39\nhide\npaint\nroll 4\nline\nswap\nwipe\nclear\nrub\ntail\nidle")
        self.assertEqual(stream_text((4, 40), codes), text)
        self.assertEqual(read_stream((4, 40), text), codes)
        self.assertEqual(stream_text(codes=(("put", " "),), screen=(1, 1)), "put  ")
        self.assertEqual(read_stream(string="put  ", screen=(1, 1)), (("put", " "),))

    def test_there_and_back(self):
        chance = chance_of(230)
        for screen in SCREENS:
            codes = tuple(all_codes(screen, SIGNS))
            self.assertEqual(read_stream(screen, stream_text(screen, codes)), codes)
            for code in codes:
                self.assertEqual(read_stream(screen, stream_text(screen, (code,))), (code,))
            for many in (0, 1, 2, 20, 2000):
                codes = some_codes(chance, screen, many, SIGNS)
                text = stream_text(screen, codes)
                self.assertEqual(read_stream(screen, text), codes)
                self.assertEqual(stream_text(screen, read_stream(screen, text)), text)
                self.assertEqual(text.count("\n"), max(0, many - 1))

    def test_what_is_refused(self):
        for thing in (*BAD_SCREENS, *ODD_THINGS):
            self.refused(BadSize, "value", thing, stream_text, thing, None)
        for code in BAD_CODES:
            self.refused(BadCode, "place", 0, stream_text, (2, 3), (code,))
            self.refused(BadCode, "place", 2, stream_text, (2, 3), (IDLE, IDLE, code, None))
        for thing in (None, [], [IDLE], (IDLE,) * 2001, (None,) * 2001, "idle", 0, {}):
            self.refused(BadCode, "place", None, stream_text, (2, 3), thing)


class Read(Case):
    def bad(self, line, string, screen=(2, 3)):
        self.refused(BadText, "line", line, read_stream, screen, string)

    def test_one_thing_otherwise(self):
        wrong = ["", " ", "x", "Idle", "IDLE", "idle ", " idle", "idle  ", "idle 0", "hide 1", "swap\r", "wipe\t",
                 "clear%", "rub,", "tail;", "line 1", "paint a", "roll1", "roll", "roll ", "roll 0", "roll 3",
                 "roll 01", "roll +1", "roll -1", "roll 1 ", "roll  1", "roll 1 1", "roll 1.0", "roll a", "roll \u0661",
                 "roll \xb9", "roll 10000000000000", "roll " + "1" * 5000, "put", "put ", "put ab", "put a ", "put   ",
                 "put  a", "put %", "put \x7f", "put \xe9", "put \t", "puta", "Put a", " put a", "put\ta", "at", "at ",
                 "at 0", "at 0 ", "at 0  0", "at  0 0", "at 0 0 ", " at 0 0", "at 0 0 0", "at 2 0", "at 0 3", "at -1 0",
                 "at 0 -1", "at 00 0", "at 0 00", "at 01 0", "at 0 01", "at +0 0", "at 0 +0", "at 0.0 0", "at 0,0",
                 "at a 0", "at 0 a", "at 0 \u0660", "at True 0", "at 0 10000000000000", "at 0 " + "1" * 5000,
                 "None", "('idle',)", "idle\x0b", "idle\u2028", "\ufeffidle", "put a\x0cidle"]
        for line in wrong:
            if line != "":
                self.bad(1, line)
            self.bad(1, line + "\nidle")
            self.bad(2, "idle\n" + line)
            self.bad(2, "idle\n" + line + "\nidle")
            self.bad(2, "idle\n" + line + "\n" + line)
            self.bad(2000, "\n".join(["idle"] * 1999 + [line] + ["idle"] * 5))

    def test_each_sign(self):
        for number in range(300):
            string = "put " + chr(number)
            if chr(number) in SIGNS:
                self.assertEqual(read_stream((1, 1), string), (("put", chr(number)),))
            else:
                self.bad(1, string, (1, 1))

    def test_codes_of_other_screens(self):
        for screen in SCREENS:
            rows, columns = screen
            for code in all_codes((4, 40)):
                string = stream_text((4, 40), (code,))
                if is_code(screen, code):
                    self.assertEqual(read_stream(screen, string), (code,))
                else:
                    self.bad(1, string, screen)
            self.bad(1, f"at {rows} 0", screen)
            self.bad(1, f"at 0 {columns}", screen)
            self.bad(1, f"roll {rows + 1}", screen)

    def test_lines_and_ends(self):
        self.assertEqual(read_stream((1, 1), ""), ())
        self.bad(1, "\n")
        self.bad(1, "\n\n")
        self.bad(1, "\nidle")
        self.bad(2, "idle\n")
        self.bad(2, "idle\n\nidle")
        self.bad(1, "idle\r\nidle")
        self.bad(3, "idle\nidle\n")

    def test_two_thousand_lines(self):
        self.assertEqual(read_stream((1, 1), "\n".join(["idle"] * 2000)), (IDLE,) * 2000)
        self.bad(2001, "\n".join(["idle"] * 2001))
        self.bad(2001, "\n".join(["idle"] * 2000) + "\n")
        self.bad(2001, "\n".join(["idle"] * 2001 + ["x"]))
        self.bad(2001, "\n".join(["idle"] * 7000))
        self.bad(7, "\n".join(["idle"] * 6 + ["x"] + ["idle"] * 3000))

    def test_what_is_no_string(self):
        for thing in (*ODD_THINGS, b"idle", ("idle",), ["idle"], (IDLE,)):
            if not isinstance(thing, str):
                self.bad(0, thing)
        # The screen is looked at first.
        for thing in (*BAD_SCREENS, *ODD_THINGS):
            self.refused(BadSize, "value", thing, read_stream, thing, None)
            self.refused(BadSize, "value", thing, read_stream, thing, "x")

    def test_any_lines(self):
        chance = chance_of(231)
        parts = ["put ", "at ", "roll ", "idle", "hide", "0", "1", "2", " ", "\n", "a", "0 1"]
        read = 0
        for _ in range(4000):
            string = "".join(chance.choices(parts, k=chance.randint(0, 7)))
            try:
                codes = read_stream((2, 2), string)
            except BadText as error:
                self.assertLessEqual(1, error.line)
                self.assertLessEqual(error.line, string.count("\n") + 1)
            else:
                read += 1
                self.assertTrue(all(is_code((2, 2), code) for code in codes))
                self.assertEqual(stream_text((2, 2), codes), string)
        self.assertGreater(read, 100)

    def test_long_strings(self):
        begun = time.monotonic()
        for string in ("idle" * 10000, "1" * 40000, "at 0 " + "1" * 39000, "at " * 13000, " " * 40000,
                       "put " + "a" * 39000):
            self.bad(1, string)
        codes = (("at", 3, 39),) * 2000
        self.assertEqual(read_stream((4, 40), stream_text((4, 40), codes)), codes)
        self.assertLess(time.monotonic() - begun, 10)
