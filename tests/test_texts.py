"""[12]: the texts of files and of cut lists, written and read."""

import time

from captionhouse.errors import BadCuts, BadFile, BadText, OutOfPlace
from captionhouse.files import need_file
from captionhouse.cuts import need_cuts
from captionhouse.texts import cuts_text, file_text, read_cuts, read_file
from tests.brute import chance_of, some_file
from tests.helpers import ODD_THINGS, Case
from tests.pictures import some_cuts

A = ("a",)
GREAT = 10 ** 12
SIXTY = ((GREAT - 1, GREAT, ("!" * 20 + " " * 10 + "~" * 10,) * 4),) * 60


class Texts(Case):
    def bad(self, call, line, string):
        self.refused(BadText, "line", line, call, string)


class Files(Texts):
    def test_written(self):
        self.assertEqual(file_text(()), "")
        self.assertEqual(file_text(((0, 1, A),)), "0 1 a")
        self.assertEqual(file_text(((5, 10, ("a b", "c")), (0, GREAT, ("x", "y", "z", "1 2 3")))),
                         "5 10 a b|c\n0 1000000000000 x|y|z|1 2 3")
        self.assertEqual(file_text(file=((3, 40, ("12",)), (3, 40, ("12",)))), "3 40 12\n3 40 12")

    def test_there_and_back(self):
        chance = chance_of(110)
        lines = ["a", "a b", "0", "1 2", "!~", "x" * 40, "a" + " " * 38 + "b", "-", "^_`", "\\", "\"'", "a  b"]
        files = [some_file(chance, 9, 30, "abc0") for _ in range(200)]
        files += [tuple((start, end, tuple(chance.choices(lines, k=chance.randint(1, 4)))) for start, end, _ in file)
                  for file in files] + [SIXTY]
        for file in files:
            text = file_text(file)
            self.assertEqual(read_file(text), file)
            self.assertEqual(file_text(read_file(text)), text)
            self.assertEqual(text.count("\n"), max(0, len(file) - 1))
        self.assertEqual(read_file(string="0 1 a"), ((0, 1, A),))

    def test_each_sign(self):
        for code in range(300):
            string = "0 1 a" + chr(code) + "b"
            if code == 124:
                self.assertEqual(read_file(string), ((0, 1, ("a", "b")),))
            elif 32 <= code <= 126 and code != 37:
                self.assertEqual(read_file(string), ((0, 1, ("a" + chr(code) + "b",)),))
                self.assertEqual(file_text(read_file(string)), string)
            elif code == 10:
                self.bad(read_file, 2, string)
            else:
                self.bad(read_file, 1, string)

    def test_lines_with_the_sign_between(self):
        for line in ("|", "a|b", "a|", "|a"):
            self.out_of_place(file_text, ((0, 1, (line,)),))
            self.out_of_place(file_text, ((0, 1, A), (0, 1, ("a", "b", line))))
            # What is no FILE is told first.
            self.refused(BadFile, "number", 1, file_text, ((0, 1, (line,)), (1, 1, A)))
        self.refused(BadFile, "number", None, file_text, None)
        self.refused(BadFile, "number", None, file_text, ((0, 1, A),) * 61)
        self.refused(BadFile, "number", 0, file_text, ((0, 1, ("|" * 41,)),))

    def test_one_thing_otherwise(self):
        wrong = ["00 1 a", "01 2 a", "0 01 a", "-1 1 a", "+0 1 a", "0 +1 a", "0 -1 a", " 0 1 a", "0  1 a", "0 1  a",
                 "0 1 a ", "01 a", "0 1a", "0 1", "0 1 ", "0", "", " ", "a", "0 1 a%", "%", "0 1 " + "a" * 41,
                 "0 1 a|b|c|d|e", "0 1 a|", "0 1 |a", "0 1 a||b", "0 1 a |b", "0 1 a| b", "1 1 a", "2 1 a", "0 0 a",
                 "1000000000000 1000000000001 a", "0 1000000000001 a", "0 9999999999999 a", "0 10000000000000 a",
                 "1" * 5000 + " 2 a", "0 " + "1" * 5000 + " a", "0 \u0661 a", "\u0660 1 a", "\xb2 3 a", "0 1.0 a",
                 "0 1e3 a",
                 "0 1_0 a", "0x0 1 a", "0,1,a", "0\t1\ta", "0 1 a\r", "0 1 a\tb", "0 1 a\x0bb", "0 1 a\x0c",
                 "0 1 a\u2028",
                 "\ufeff0 1 a", "0 1 \xe9", "None 1 a", "True 2 a", "|", "0|1|a", "0 1 |"]
        for line in wrong:
            if line != "":
                self.bad(read_file, 1, line)
            self.bad(read_file, 1, line + "\n0 1 a")
            self.bad(read_file, 2, "0 1 a\n" + line)
            self.bad(read_file, 2, "0 1 a\n" + line + "\n0 1 a")
            self.bad(read_file, 2, "0 1 a\n" + line + "\n" + line)
            self.bad(read_file, 60, "\n".join(["0 1 a"] * 59 + [line] + ["0 1 a"] * 5))

    def test_lines_and_ends(self):
        self.assertEqual(read_file(""), ())
        self.bad(read_file, 1, "\n")
        self.bad(read_file, 1, "\n\n")
        self.bad(read_file, 2, "0 1 a\n")
        self.bad(read_file, 2, "0 1 a\n\n0 1 a")
        self.bad(read_file, 3, "0 1 a\n0 1 a\n")
        self.bad(read_file, 1, "0 1 a\r\n0 1 a")
        self.assertEqual(len(read_file("\n".join(["0 1 a"] * 60))), 60)
        self.bad(read_file, 61, "\n".join(["0 1 a"] * 61))
        self.bad(read_file, 61, "\n".join(["0 1 a"] * 60) + "\n")
        self.bad(read_file, 61, "\n".join(["0 1 a"] * 900))
        self.bad(read_file, 61, "\n".join(["0 1 a"] * 61 + ["wrong"]))

    def test_files_stay_within_their_limits(self):
        self.assertEqual(read_file("999999999999 1000000000000 " + "a" * 40 + "|b|c|d"),
                         ((GREAT - 1, GREAT, ("a" * 40, "b", "c", "d")),))
        self.assertEqual(read_file("0 1 a   b"), ((0, 1, ("a   b",)),))
        chance = chance_of(111)
        for _ in range(3000):
            string = "".join(chance.choices("0123 |a\n", weights=(2, 2, 2, 1, 4, 1, 3, 1), k=chance.randint(0, 12)))
            try:
                file = read_file(string)
            except BadText as error:
                self.assertLessEqual(1, error.line)
                self.assertLessEqual(error.line, string.count("\n") + 1)
            else:
                self.assertIs(need_file(file), file)
                self.assertEqual(file_text(file), string)


class Cuts(Texts):
    def test_written(self):
        self.assertEqual(cuts_text(()), "")
        self.assertEqual(cuts_text(((0, 1),)), "0 1")
        self.assertEqual(cuts_text(((5, 10), (0, GREAT - 5))), "5 10\n0 999999999995")
        self.assertEqual(cuts_text(cuts=((5, 10), (5, 10))), "5 10\n5 10")
        self.refused(BadCuts, "number", 1, cuts_text, ((0, 1), (1, 1)))
        self.refused(BadCuts, "number", None, cuts_text, [(0, 1)])

    def test_there_and_back(self):
        chance = chance_of(112)
        great = [((0, 1),) * 60, ((0, GREAT),), ((GREAT - 9, GREAT),) * 60]
        for cuts in [some_cuts(chance, 9, 30) for _ in range(200)] + great:
            text = cuts_text(cuts)
            self.assertEqual(read_cuts(text), cuts)
            self.assertEqual(cuts_text(read_cuts(text)), text)
        self.assertEqual(read_cuts(string="0 1"), ((0, 1),))

    def test_one_thing_otherwise(self):
        wrong = ["00 1", "01 2", "0 01", "-1 1", "+0 1", "0 +1", " 0 1", "0  1", "0 1 ", "01", "0", "", " ", "a",
                 "0 1%",
                 "1 1", "2 1", "0 0", "0 1 2", "0 1 a", "1000000000000 1000000000001", "0 1000000000001",
                 "0 10000000000000", "1" * 5000 + " 2", "0 " + "1" * 5000, "0 \u0661", "\xb2 3", "0 1.0", "0 1_0",
                 "0\t1",
                 "0 1\r", "0|1", "0-1", "None 1"]
        for line in wrong:
            if line != "":
                self.bad(read_cuts, 1, line)
            self.bad(read_cuts, 1, line + "\n0 1")
            self.bad(read_cuts, 2, "0 1\n" + line)
            self.bad(read_cuts, 2, "0 1\n" + line + "\n0 1")
            self.bad(read_cuts, 60, "\n".join(["0 1"] * 59 + [line] + ["0 1"] * 5))

    def test_lines_and_ends(self):
        self.assertEqual(read_cuts(""), ())
        self.bad(read_cuts, 1, "\n")
        self.bad(read_cuts, 2, "0 1\n")
        self.bad(read_cuts, 2, "0 1\n\n0 1")
        self.assertEqual(len(read_cuts("\n".join(["0 1"] * 60))), 60)
        self.bad(read_cuts, 61, "\n".join(["0 1"] * 61))
        self.bad(read_cuts, 61, "\n".join(["0 1"] * 60) + "\n")

    def test_all_together_too_long(self):
        self.assertEqual(read_cuts("0 500000000000\n0 500000000000"), ((0, GREAT // 2),) * 2)
        self.bad(read_cuts, 2, "0 500000000000\n0 500000000001")
        self.bad(read_cuts, 2, "0 1000000000000\n0 1\n0 1")
        self.bad(read_cuts, 3, "0 500000000000\n0 500000000000\n7 8\n0 1")
        # A line that cannot stand by itself is told first, the 61st one too.
        self.bad(read_cuts, 4, "0 1000000000000\n0 1\n0 1\nx")
        self.bad(read_cuts, 61, "\n".join(["0 1000000000000"] * 61))
        self.bad(read_cuts, 2, "\n".join(["0 1000000000000"] * 60))

    def test_cuts_stay_within_their_limits(self):
        chance = chance_of(113)
        for _ in range(3000):
            string = "".join(chance.choices("0123 \n", weights=(2, 2, 2, 1, 3, 2), k=chance.randint(0, 9)))
            try:
                cuts = read_cuts(string)
            except BadText as error:
                self.assertLessEqual(1, error.line)
                self.assertLessEqual(error.line, string.count("\n") + 1)
            else:
                self.assertIs(need_cuts(cuts), cuts)
                self.assertEqual(cuts_text(cuts), string)


class NoStrings(Texts):
    def test_what_is_no_string(self):
        for thing in ODD_THINGS:
            if not isinstance(thing, str):
                self.bad(read_file, 0, thing)
                self.bad(read_cuts, 0, thing)
        for thing in (b"0 1", ("0 1",), ["0 1 a"], ((0, 1, A),)):
            self.bad(read_file, 0, thing)
            self.bad(read_cuts, 0, thing)

    def test_long_strings(self):
        begun = time.monotonic()
        self.assertEqual(read_file(file_text(SIXTY)), SIXTY)
        self.assertGreater(len(file_text(SIXTY)), 11000)
        self.bad(read_file, 1, "1" * 40000)
        self.bad(read_file, 1, "0 1 " + "a|" * 19998)
        self.bad(read_file, 1, "\n" * 40000)
        self.bad(read_cuts, 1, "0 " * 20000)
        self.assertLess(time.monotonic() - begun, 10)
        self.assertRaises(OutOfPlace, file_text, ((0, 1, ("|",)),))
