"""[15]: summaries of streams, that tell what they do to all states."""

import time

from captionhouse.decoders import is_state, led
from captionhouse.errors import BadCode, BadSize, OutOfPlace, TooGreat
from captionhouse.summaries import apart, controls, do_alike, is_summary, joined, led_by, summary
from tests.brute import chance_of
from tests.helpers import ODD_THINGS, Case, Equal
from tests.streams import (all_codes, all_states, controls_by_hand, led_by_hand, some_codes, some_state,
                           summary_by_hand)
from tests.test_decoders import BAD_SCREENS

TWELVE = ((1, 12), (2, 6), (3, 4), (4, 3))
SMALL = ((1, 1), (1, 2), (2, 1), (1, 3), (2, 2), (3, 1), (4, 1))
THIRTEEN = ((1, 13), (2, 7), (3, 5), (4, 4), (4, 40), (1, 40))


class Controls(Case):
    def test_all_ascending(self):
        for rows in range(1, 5):
            for columns in range(1, 12 // rows + 1):
                found = controls((rows, columns))
                self.assertEqual(found, tuple(controls_by_hand((rows, columns))))
                self.assertEqual(len(found), rows * columns * (2 + rows))
        self.assertEqual(controls(screen=(1, 1)), (("hide", 0, 0), ("paint", 0, 0), ("roll1", 0, 0)))


class Summaries(Case):
    def test_marked_cells(self):
        chance = chance_of(150)
        for screen in TWELVE + SMALL:
            for many in (0, 1, 2, 3, 5, 10, 30, 100):
                codes = some_codes(chance, screen, many, "ab ")
                found = summary(screen, codes)
                self.assertEqual(found, summary_by_hand(screen, codes))
                self.assertIs(is_summary(screen, found), True)

    def test_each_code(self):
        for screen in TWELVE + SMALL:
            for code in all_codes(screen):
                self.assertEqual(summary(screen, (code,)), summary_by_hand(screen, (code,)))

    def test_without_codes(self):
        self.assertEqual(summary((1, 1), ()), ((("hide", 0, 0), ("hide", 0, 0), (0, 1)),
                                               (("paint", 0, 0), ("paint", 0, 0), (0, 1)),
                                               (("roll1", 0, 0), ("roll1", 0, 0), (0, 1))))
        self.assertEqual(summary(screen=(1, 1), codes=(("swap",), ("put", "a"))),
                         ((("hide", 0, 0), ("hide", 0, 0), (1, "a")), (("paint", 0, 0), ("hide", 0, 0), (1, "a")),
                          (("roll1", 0, 0), ("hide", 0, 0), (1, "a"))))

    def test_led_by(self):
        chance = chance_of(151)
        for screen in TWELVE + SMALL:
            for many in (0, 1, 3, 9, 40):
                codes = some_codes(chance, screen, many, "ab ")
                told = summary(screen, codes)
                for _ in range(20):
                    state = some_state(chance, screen)
                    self.assertEqual(led_by(screen, told, state), led_by_hand(screen, state, codes))
                    self.assertEqual(led_by(screen, told, state), led(screen, state, codes))
        self.assertEqual(led_by(state=("hide", 0, 0, ("a",), ("b",)), summary=summary((1, 1), ()), screen=(1, 1)),
                         ("hide", 0, 0, ("a",), ("b",)))

    def test_joined(self):
        chance = chance_of(152)
        for screen in TWELVE + SMALL:
            for _ in range(12):
                one = some_codes(chance, screen, chance.randint(0, 8), "ab ")
                other = some_codes(chance, screen, chance.randint(0, 8), "ab ")
                found = joined(screen, summary(screen, one), summary(screen, other))
                self.assertEqual(found, summary_by_hand(screen, one + other))
        one, other = summary((1, 1), (("put", "a"),)), summary((1, 1), (("swap",),))
        self.assertEqual(joined(other=other, one=one, screen=(1, 1)), summary((1, 1), (("put", "a"), ("swap",))))

    def test_joined_and_led_by_whatever_has_the_form(self):
        """What no STREAM can do, too: each CONTROL leads anywhere, each cell comes from anywhere."""
        chance = chance_of(153)
        screen = (2, 2)
        firsts = controls(screen)
        for _ in range(50):
            one, other = [tuple((first, chance.choice(firsts), tuple(chance.choices([*range(8), "a", " "], k=8)))
                                for first in firsts) for _ in range(2)]
            self.assertTrue(is_summary(screen, one))
            both = joined(screen, one, other)
            self.assertTrue(is_summary(screen, both))
            for _ in range(20):
                state = some_state(chance, screen)
                self.assertEqual(led_by(screen, both, state), led_by(screen, other, led_by(screen, one, state)))

    def test_2000_codes(self):
        chance = chance_of(154)
        begun = time.monotonic()
        for screen in TWELVE:
            codes = some_codes(chance, screen, 2000, "ab ")
            told = summary(screen, codes)
            state = some_state(chance, screen)
            self.assertEqual(led_by(screen, told, state), led_by_hand(screen, state, codes))
            idle = (("idle",),) * 2000
            self.assertEqual(summary(screen, idle), summary(screen, ()))
            self.assertTrue(do_alike(screen, codes, codes))
            self.assertIsNone(apart(screen, idle, ()))
        self.assertLess(time.monotonic() - begun, 30)


class Forms(Case):
    screen = (1, 2)

    def bent(self):
        told = summary(self.screen, (("put", "a"), ("swap",)))
        place = 3
        first, after, cells = told[place]
        entries = [None, (first, after), (first, after, cells, 0), [first, after, cells], (first, after, cells[:-1]),
                   (first, after, cells + (0,)), (first, after, list(cells)), (told[2][0], after, cells),
                   (first, ("roll2", 0, 0), cells), (first, ("hide", 1, 0), cells), (first, ("hide", 0, 2), cells),
                   (first, ("hide", -1, 0), cells), (first, ("hide", False, 0), cells),
                   (first, ("hide", 0, True), cells),
                   (first, ("hide", 0), cells), (first, ["hide", 0, 0], cells), (first, None, cells),
                   (first, ("hide", 0, 0, 0), cells), (first, (None, 0, 0), cells), (first, (Equal(), 0, 0), cells),
                   (first, Equal(), cells), (Equal(), after, cells), (first, after, Equal()),
                   ((first[0], float(first[1]), first[2]), after, cells), ((first[0], False, first[2]), after, cells),
                   (list(first), after, cells), (("hide", 0, 2), after, cells)]
        for cell in (-1, 4, True, False, 0.0, None, "", "ab", "%", "\n", "\x7f", "\xe9", b"a", ("a",), 10 ** 999,
                     Equal()):
            entries += [(first, after, (cell,) + cells[1:]), (first, after, cells[:-1] + (cell,))]
        things = [told[:place] + (entry,) + told[place + 1:] for entry in entries]
        return things + [told[:-1], told + told[-1:], list(told), told[::-1], told[1:] + told[:1], (), (told[0],) * 6,
                         dict(enumerate(told)), *ODD_THINGS]

    def test_good_ones(self):
        told = summary(self.screen, ())
        for cell in (0, 3, "a", " ", "~"):
            entry = (told[0][0], ("roll1", 0, 1), (cell,) * 4)
            self.assertIs(is_summary(self.screen, (entry,) + told[1:]), True)
        self.assertIs(is_summary(screen=self.screen, value=told), True)
        self.assertIs(is_summary((2, 1), told), False)

    def test_bent_ones(self):
        told = summary(self.screen, ())
        state = ("hide", 0, 0, ("ab",), ("cd",))
        for thing in self.bent():
            self.assertIs(is_summary(self.screen, thing), False)
            for call, rest in ((joined, (thing, told)), (joined, (told, thing)), (joined, (thing, None)),
                               (led_by, (thing, state)), (led_by, (thing, None))):
                with self.assertRaises(OutOfPlace) as caught:
                    call(self.screen, *rest)
                self.assertIs(caught.exception.__class__, OutOfPlace)

    def test_states(self):
        told = summary(self.screen, ())
        for thing in (*ODD_THINGS, (), ("hide", 0, 0, ("ab",)), ("roll2", 0, 0, ("ab",), ("cd",)),
                      ("hide", 0, 2, ("ab",), ("cd",)), ("hide", 0, 0, ("a",), ("cd",)),
                      ["hide", 0, 0, ("ab",), ("cd",)]):
            self.out_of_place(led_by, self.screen, told, thing)


class TwoStreams(Case):
    def look(self, screen, one, other):
        """The state that is told, of blanks and x, is led to unlike ones; None if there is none."""
        found = apart(screen, one, other)
        self.assertIs(do_alike(screen, one, other), found is None)
        if found is not None:
            self.assertTrue(is_state(screen, found))
            self.assertTrue(set("".join(found[3] + found[4])) <= {" ", "x"})
            self.assertNotEqual(led_by_hand(screen, found, one), led_by_hand(screen, found, other))
        return found is None

    def test_all_states_of_small_screens(self):
        chance = chance_of(155)
        for screen in ((1, 1), (1, 2), (2, 1)):
            counted = [0, 0]
            states = all_states(screen, " xa")
            for _ in range(200):
                one = some_codes(chance, screen, chance.randint(0, 3), " xa")
                other = some_codes(chance, screen, chance.randint(0, 3), " xa")
                alike = all(led_by_hand(screen, state, one) == led_by_hand(screen, state, other) for state in states)
                self.assertIs(self.look(screen, one, other), alike)
                counted[alike] += 1
            self.assertGreater(min(counted), 10)

    def test_all_pairs_of_codes(self):
        for screen in ((1, 1), (1, 2), (2, 1), (2, 2)):
            codes = all_codes(screen, " xa")
            for one in codes:
                for other in codes:
                    alike = summary_by_hand(screen, (one,)) == summary_by_hand(screen, (other,))
                    self.assertIs(self.look(screen, (one,), (other,)), alike)

    def test_random_streams(self):
        chance = chance_of(156)
        for screen in TWELVE:
            alike = 0
            for _ in range(60):
                one = some_codes(chance, screen, chance.randint(0, 30), " xa")
                at = chance.randint(0, len(one))
                other = one[:at] + some_codes(chance, screen, 1, " xa") + one[at:]
                alike += self.look(screen, one, other)
            self.assertGreater(alike, 2)

    def test_an_x_against_a_cell(self):
        screen = (1, 1)
        for one, other in (((("paint",), ("put", "x")), (("paint",),)), ((("paint",), ("put", " ")), (("paint",),)),
                           ((("paint",), ("put", "a")), (("paint",),)), ((("swap",),), (("hide",),)),
                           ((("paint",), ("put", "x")), (("paint",), ("put", "a")))):
            self.assertFalse(self.look(screen, one, other))
            self.assertFalse(self.look(screen, other, one))
        # What tells the first cells does not hang on the others.
        both = (("paint",), ("at", 0, 0), ("put", "x"), ("put", " "))
        for one in (both, both[:2] + both[2:][::-1], both[:3] + (("put", "x"),), both[:2] + both[3:] * 2):
            self.assertFalse(self.look((1, 2), one, (("paint",), ("at", 0, 1))))
            self.assertFalse(self.look((1, 2), (("paint",), ("at", 0, 1)), one))

    def test_by_name(self):
        self.assertTrue(do_alike(other=(), one=(("idle",),), screen=(1, 1)))
        self.assertIsNone(apart(other=(), one=(("idle",),), screen=(1, 1)))
        self.assertFalse(do_alike((1, 1), (("swap",),), ()))
        self.assertTrue(do_alike((1, 1), (("hide",), ("swap",), ("swap",)), (("hide",),)))


class Refusals(Case):
    calls = ((controls, 0), (summary, 1), (is_summary, 1), (joined, 2), (led_by, 2), (do_alike, 2), (apart, 2))

    def test_screens(self):
        for call, more in self.calls:
            for thing in BAD_SCREENS:
                self.refused(BadSize, "value", thing, call, thing, *[None] * more)
            for screen in THIRTEEN:
                self.refused(TooGreat, "most", 12, call, screen, *[None] * more)
                self.refused(TooGreat, "most", 12, call, screen, *[()] * more)
        for screen in TWELVE:
            self.assertTrue(controls(screen))

    def test_streams(self):
        for thing, place in ((None, None), ([], None), ((("idle",),) * 2001, None), ((("idle",), ("at", 1, 0)), 1),
                             ((("roll", 2),), 0), ((None, None), 0)):
            self.refused(BadCode, "place", place, summary, (1, 2), thing)
            for call in (do_alike, apart):
                self.refused(BadCode, "place", place, call, (1, 2), thing, None)
                self.refused(BadCode, "place", place, call, (1, 2), (), thing)
