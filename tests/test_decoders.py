"""[13], [14]: screens, memories, codes, states, and what each code does."""

import time

from captionhouse.decoders import (MODES, blank, first_state, is_code, is_memory, is_state, led, need_screen, pictures,
                                   step)
from captionhouse.errors import BadCode, BadSize, OutOfPlace
from tests.brute import chance_of
from tests.helpers import ODD_THINGS, Case, Equal
from tests.streams import (SIGNS, all_codes, all_states, controls_by_hand, first_by_hand, led_by_hand,
                           pictures_by_hand, some_codes, some_state)

SCREENS = ((1, 1), (1, 5), (4, 1), (2, 3), (3, 2), (4, 4), (4, 40))
BAD_SCREENS = (None, True, 0, "ab", (), (1,), (1, 2, 3), [1, 2], (0, 1), (1, 0), (5, 1), (1, 41), (-1, 1), (True, 1),
               (1, True), (1.0, 1), (1, 1.0), ("1", 1), (None, 1), (1, None), (10 ** 999, 1), (1, 10 ** 999), {1: 2},
               {1, 2})
BAD_CODES = (None, True, 0, "idle", (), [], ["idle"], ("idle", 0), ("idle", None), ("Idle",), ("",), (None,), (0,),
             (("idle",),), (b"idle",), ("put",), ("put", ""), ("put", "ab"), ("put", "%"), ("put", "\n"),
             ("put", "\x7f"), ("put", "\xe9"), ("put", 1), ("put", None), ("put", b"a"), ("put", ("a",)),
             ("put", "a", "b"), ("at",),
             ("at", 0), ("at", 0, 0, 0), ("at", -1, 0), ("at", 0, -1), ("at", 2, 0), ("at", 0, 3), ("at", True, 0),
             ("at", 0, False), ("at", 0.0, 0), ("at", "0", 0), ("at", None, 0), ("at", 0, 10 ** 999), ("roll",),
             ("roll", 0),
             ("roll", 3), ("roll", -1), ("roll", True), ("roll", 1.0), ("roll", "1"), ("roll", 1, 1), ("roll1",),
             ("hide", 1), ("paint", "a"), ("line", 1), ("swap", 0), ("wipe", 0), ("clear", 0), ("rub", 1), ("tail", 1),
             ("put", " ", " "), ("roll", None), (Equal(),), (["idle"],), ("roll", Equal()), ("put", Equal()))


class Screens(Case):
    def test_it_gives_the_very_thing(self):
        for rows in range(1, 5):
            for columns in range(1, 41):
                screen = (rows, columns)
                self.assertIs(need_screen(screen), screen)
                self.assertEqual(blank(screen), (" " * columns,) * rows)
                self.assertEqual(first_state(screen), first_by_hand(screen))
        self.assertEqual(need_screen(screen=(2, 3)), (2, 3))

    def test_what_is_none(self):
        calls = [(need_screen,), (blank,), (first_state,), (is_code, ("idle",)), (is_memory, (" ",)), (is_state, None),
                 (step, None, None), (led, None, None), (pictures, None)]
        for thing in (*BAD_SCREENS, *ODD_THINGS):
            for call, *rest in calls:
                self.refused(BadSize, "value", thing, call, thing, *rest)

    def test_the_very_thing_is_told(self):
        thing = [1, 2]
        with self.assertRaises(BadSize) as caught:
            need_screen(thing)
        self.assertIs(caught.exception.value, thing)

    def test_modes(self):
        self.assertEqual(MODES, ("hide", "paint", "roll1", "roll2", "roll3", "roll4"))


class Kinds(Case):
    def test_codes(self):
        for screen in SCREENS:
            for code in all_codes(screen, SIGNS):
                self.assertIs(is_code(screen, code), True)
            rows, columns = screen
            for code in (("at", rows, 0), ("at", 0, columns), ("roll", rows + 1), ("at", rows - 1, columns)):
                self.assertIs(is_code(screen, code), False)
        for code in (*BAD_CODES, *ODD_THINGS):
            self.assertIs(is_code((2, 3), code), False)
        for number in range(300):
            self.assertIs(is_code((1, 1), ("put", chr(number))), chr(number) in SIGNS)
        self.assertTrue(is_code(screen=(2, 3), value=("at", 1, 2)))

    def test_memories(self):
        for memory in (("abc", "   "), ("~~~", "!a ")):
            self.assertIs(is_memory((2, 3), memory), True)
        for thing in (*ODD_THINGS, (), ("abc",), ("abc", "def", "ghi"), ["abc", "def"], ("abc", "de"), ("abc", "defg"),
                      ("abc", None), ("abc", ("d", "e", "f")), ("abc", b"def"), ("abc", "a%b"), ("abc", "a\nb"),
                      ("abc", "ab\x7f"), ("ab\xe9", "abc"), "abcdef", ("abc", ["d", "e", "f"]), (1, 2),
                      ("abc", Equal())):
            self.assertIs(is_memory((2, 3), thing), False)
        self.assertTrue(is_memory(screen=(1, 1), value=("a",)))
        for number in range(300):
            self.assertIs(is_memory((1, 2), ("a" + chr(number),)), chr(number) in SIGNS)

    def test_states(self):
        shown, hidden = ("abc", "   "), ("   ", "xyz")
        for mode in MODES[:4]:
            for row in range(2):
                for column in range(3):
                    self.assertIs(is_state((2, 3), (mode, row, column, shown, hidden)), True)
        good = ("paint", 1, 2, shown, hidden)
        bent = [(), good[:4], good + (0,), list(good), *ODD_THINGS]
        bent += [(mode, *good[1:]) for mode in ("roll3", "roll4", "roll0", "roll", "roll5", "Hide", "", "h", None, 0,
                                                b"hide",
                                                ("hide",), ["hide"], Equal(), True, "roll1 ", "roll11")]
        bent += [("hide", row, *good[2:]) for row in (-1, 2, True, False, 1.0, "1", None, 10 ** 999)]
        bent += [("hide", 1, column, shown, hidden) for column in (-1, 3, True, False, 1.0, "1", None, 10 ** 999)]
        for memory in (None, (), ("abc",), ("abc", "ab"), ["abc", "abc"], ("abc", "a%c"), "abcdef",
                       ("abc", "   ", "   ")):
            bent += [("hide", 0, 0, memory, hidden), ("hide", 0, 0, shown, memory)]
        for thing in bent:
            self.assertIs(is_state((2, 3), thing), False)
        for rows in range(1, 5):
            memory = ("a",) * rows
            for number, mode in enumerate(MODES):
                self.assertIs(is_state((rows, 1), (mode, 0, 0, memory, memory)), number < 2 + rows)
        self.assertTrue(is_state(screen=(2, 3), value=good))
        self.assertTrue(is_state((2, 3), first_state((2, 3))))


class Steps(Case):
    def test_each_code_from_each_control(self):
        chance = chance_of(140)
        for screen in SCREENS[:-1]:
            for control in controls_by_hand(screen):
                for code in all_codes(screen):
                    state = (*control, *some_state(chance, screen)[3:])
                    behind = step(screen, state, code)
                    self.assertEqual(behind, led_by_hand(screen, state, (code,)))
                    self.assertTrue(is_state(screen, behind))
                    self.assertEqual(led(screen, state, (code,)), behind)

    def test_all_states_of_a_small_screen(self):
        for screen in ((1, 2), (2, 1)):
            for state in all_states(screen, " xy"):
                for code in all_codes(screen, "xz"):
                    self.assertEqual(step(screen, state, code), led_by_hand(screen, state, (code,)))

    def test_streams(self):
        chance = chance_of(141)
        for screen in SCREENS:
            for many in (0, 1, 2, 7, 40, 200):
                codes = some_codes(chance, screen, many, "abc ")
                for state in (some_state(chance, screen), first_state(screen)):
                    behind = state
                    for code in codes:
                        behind = step(screen, behind, code)
                    self.assertEqual(led(screen, state, codes), behind)
                    self.assertEqual(behind, led_by_hand(screen, state, codes))
                self.assertEqual(pictures(screen, codes), pictures_by_hand(screen, codes))
                state = first_state(screen)
                shown = []
                for code in codes:
                    state = step(screen, state, code)
                    shown.append(state[3])
                self.assertEqual(pictures(screen, codes), tuple(shown))

    def test_2000_codes(self):
        chance = chance_of(142)
        begun = time.monotonic()
        codes = some_codes(chance, (4, 40), 2000, SIGNS)
        self.assertEqual(pictures((4, 40), codes), pictures_by_hand((4, 40), codes))
        self.assertEqual(led((4, 40), first_state((4, 40)), codes), led_by_hand((4, 40), first_state((4, 40)), codes))
        self.assertEqual(len(pictures((4, 40), codes)), 2000)
        self.assertLess(time.monotonic() - begun, 20)


class ByHand(Case):
    screen = (3, 4)
    shown = ("abcd", "efgh", "ijkl")
    hidden = ("ABCD", "EFGH", "IJKL")

    def behind(self, mode, row, column, code):
        return step(self.screen, (mode, row, column, self.shown, self.hidden), code)

    def test_put(self):
        self.assertEqual(self.behind("hide", 1, 2, ("put", "x")), ("hide", 1, 3, self.shown, ("ABCD", "EFxH", "IJKL")))
        self.assertEqual(self.behind("hide", 1, 3, ("put", "x")), ("hide", 1, 3, self.shown, ("ABCD", "EFGx", "IJKL")))
        self.assertEqual(self.behind("paint", 0, 0, ("put", "x")),
                         ("paint", 0, 1, ("xbcd", "efgh", "ijkl"), self.hidden))
        self.assertEqual(self.behind("roll2", 2, 3, ("put", " ")),
                         ("roll2", 2, 3, ("abcd", "efgh", "ijk "), self.hidden))

    def test_at_and_modes(self):
        self.assertEqual(self.behind("roll1", 1, 2, ("at", 2, 3)), ("roll1", 2, 3, self.shown, self.hidden))
        self.assertEqual(self.behind("roll1", 1, 2, ("at", 0, 0)), ("roll1", 0, 0, self.shown, self.hidden))
        for word in ("hide", "paint"):
            for mode in ("hide", "paint", "roll3"):
                self.assertEqual(self.behind(mode, 1, 2, (word,)), (word, 1, 2, self.shown, self.hidden))
        for many in (1, 2, 3):
            self.assertEqual(self.behind("hide", 0, 2, ("roll", many)),
                             ("roll" + str(many), 2, 0, self.shown, self.hidden))

    def test_line(self):
        told = {"roll1": ("abcd", "efgh", "    "), "roll2": ("abcd", "ijkl", "    "), "roll3": ("efgh", "ijkl", "    ")}
        for mode, shown in told.items():
            for row in range(3):
                self.assertEqual(self.behind(mode, row, 2, ("line",)), (mode, 2, 0, shown, self.hidden))
        for mode in ("hide", "paint"):
            self.assertEqual(self.behind(mode, 0, 2, ("line",)), (mode, 1, 0, self.shown, self.hidden))
            self.assertEqual(self.behind(mode, 1, 0, ("line",)), (mode, 2, 0, self.shown, self.hidden))
            self.assertEqual(self.behind(mode, 2, 3, ("line",)), (mode, 2, 0, self.shown, self.hidden))

    def test_memories(self):
        empty = ("    ",) * 3
        for mode in ("hide", "paint", "roll2"):
            self.assertEqual(self.behind(mode, 1, 2, ("swap",)), ("hide", 1, 2, self.hidden, self.shown))
            self.assertEqual(self.behind(mode, 1, 2, ("wipe",)), (mode, 1, 2, empty, self.hidden))
            self.assertEqual(self.behind(mode, 1, 2, ("clear",)), (mode, 1, 2, self.shown, empty))
            self.assertEqual(self.behind(mode, 1, 2, ("idle",)), (mode, 1, 2, self.shown, self.hidden))

    def test_rub_and_tail(self):
        self.assertEqual(self.behind("hide", 1, 2, ("rub",)), ("hide", 1, 1, self.shown, ("ABCD", "E GH", "IJKL")))
        self.assertEqual(self.behind("paint", 1, 1, ("rub",)), ("paint", 1, 0, ("abcd", " fgh", "ijkl"), self.hidden))
        self.assertEqual(self.behind("roll3", 2, 3, ("rub",)), ("roll3", 2, 2, ("abcd", "efgh", "ij l"), self.hidden))
        for mode in ("hide", "paint", "roll1"):
            self.assertEqual(self.behind(mode, 1, 0, ("rub",)), (mode, 1, 0, self.shown, self.hidden))
        self.assertEqual(self.behind("hide", 1, 2, ("tail",)), ("hide", 1, 2, self.shown, ("ABCD", "EF  ", "IJKL")))
        self.assertEqual(self.behind("paint", 0, 0, ("tail",)), ("paint", 0, 0, ("    ", "efgh", "ijkl"), self.hidden))
        self.assertEqual(self.behind("roll1", 2, 3, ("tail",)), ("roll1", 2, 3, ("abcd", "efgh", "ijk "), self.hidden))

    def test_a_caption(self):
        codes = (("hide",), ("clear",), ("at", 0, 0), ("put", "h"), ("put", "i"), ("idle",), ("swap",), ("wipe",))
        empty = (" " * 4,) * 2
        self.assertEqual(pictures((2, 4), codes), (empty,) * 6 + (("hi  ", "    "), empty))
        self.assertEqual(pictures((2, 4), ()), ())
        self.assertEqual(led((2, 4), ("paint", 1, 3, ("abcd", "efgh"), empty), ()),
                         ("paint", 1, 3, ("abcd", "efgh"), empty))


class Refusals(Case):
    screen = (2, 3)
    state = ("paint", 1, 2, ("abc", "def"), ("   ", "   "))

    def test_codes(self):
        for code in (*BAD_CODES, *ODD_THINGS):
            self.refused(BadCode, "place", 0, step, self.screen, self.state, code)
            for number in (0, 1, 5):
                codes = (("idle",),) * number + (code, None)
                self.refused(BadCode, "place", number, led, self.screen, self.state, codes)
                self.refused(BadCode, "place", number, pictures, self.screen, codes)

    def test_streams(self):
        for thing in (*[thing for thing in ODD_THINGS if thing not in ((None,) * 7, ((),) * 7)], [("idle",)],
                      (("idle",),) * 2001, (None,) * 2001):
            self.refused(BadCode, "place", None, led, self.screen, self.state, thing)
            self.refused(BadCode, "place", None, pictures, self.screen, thing)
        self.assertEqual(len(pictures(self.screen, (("idle",),) * 2000)), 2000)
        self.refused(BadCode, "place", 1999, pictures, self.screen, (("idle",),) * 1999 + (("at", 2, 0),))

    def test_states(self):
        for thing in (*ODD_THINGS, (), self.state[:4], ("roll3", *self.state[1:]), ("paint", 2, *self.state[2:]),
                      ("paint", 1, 3, *self.state[3:]), (*self.state[:4], ("   ",)), list(self.state)):
            for call, rest in ((step, ("idle",)), (step, None), (led, ()), (led, None)):
                with self.assertRaises(OutOfPlace) as caught:
                    call(self.screen, thing, rest)
                self.assertIs(caught.exception.__class__, OutOfPlace)

    def test_by_name(self):
        self.assertEqual(step(code=("idle",), state=self.state, screen=self.screen), self.state)
        self.assertEqual(led(codes=(), state=self.state, screen=self.screen), self.state)
        self.assertEqual(pictures(codes=(("idle",),), screen=(1, 1)), ((" ",),))
        self.assertEqual(blank(screen=(1, 2)), ("  ",))
        self.assertEqual(first_state(screen=(1, 1)), ("hide", 0, 0, (" ",), (" ",)))
