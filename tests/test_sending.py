"""[20], [21]: cues that are sent, put off, shown, and the papers on them."""

import time
from itertools import product

from captionhouse.decoders import blank, first_state, is_memory, led, pictures
from captionhouse.errors import BadCode, BadCues, BadPaper, BadSize, OutOfPlace
from captionhouse.files import flat
from captionhouse.sending import check_send, load, picture_of, put_off, send_paper, shows, text_of
from captionhouse.tuning import sure
from tests.brute import chance_of
from tests.helpers import ODD_THINGS, Case, Equal
from tests.laying import (laid_by_hand, load_by_hand, picture_by_hand, sends_by_hand, shown_by_hand, some_sendable,
                          some_text, told_pictures)
from tests.streams import SIGNS, all_codes, led_by_hand, pictures_by_hand, some_codes, some_state
from tests.test_decoders import BAD_CODES, BAD_SCREENS

IDLE = (("idle",),)
A = ("a",)
SCREENS = ((1, 1), (1, 2), (2, 2), (2, 6), (4, 3), (4, 40))
# Each text's load has five, six or seven codes.
AB = ("ab",)
ROWS = ("a", "b")
# Tuples that are no TEXT that a screen of two rows and three columns has room for.
BAD_TEXTS = ((), ("",), (" ",), (" a",), ("a ",), ("abcd",), ("a", "abcd"), ("a", "b", "c"), ("a", ""), ("a", " b"),
             ("a%",), ("a\nb",), ("\x7f",), ("\xe9",), (b"a",), (None,), (1,), (("a",),), ["a"], "a", "ab", ("a", None),
             (["a"],), {"a"}, (Equal(),), ("a",) * 5)


class Texts(Case):
    def test_loads(self):
        chance = chance_of(200)
        for screen in SCREENS:
            for _ in range(20):
                text = some_text(chance, screen)
                self.assertEqual(load(screen, text), tuple(load_by_hand(text)))
                # Led from any state, and then swapped, the text is shown alone.
                codes = load(screen, text) + (("swap",),)
                for state in (first_state(screen), some_state(chance, screen)):
                    self.assertEqual(led(screen, state, codes)[3], picture_of(screen, text))
                    self.assertEqual(led_by_hand(screen, state, codes)[3], picture_by_hand(screen, text))
        self.assertEqual(load((2, 4), ("a b", "c")),
                         (("hide",), ("clear",), ("at", 0, 0), ("put", "a"), ("put", " "), ("put", "b"), ("at", 1, 0),
                          ("put", "c")))
        self.assertEqual(load(text=A, screen=(1, 1)), (("hide",), ("clear",), ("at", 0, 0), ("put", "a")))

    def test_pictures(self):
        chance = chance_of(201)
        for screen in SCREENS:
            for _ in range(30):
                text = some_text(chance, screen)
                picture = picture_of(screen, text)
                self.assertEqual(picture, picture_by_hand(screen, text))
                self.assertTrue(is_memory(screen, picture))
                self.assertEqual(text_of(screen, picture), text)
        self.assertEqual(picture_of((3, 4), ("a b", "c")), ("a b ", "c   ", "    "))
        self.assertEqual(picture_of(text=("ab", "cd"), screen=(2, 2)), ("ab", "cd"))

    def test_texts_that_just_fit(self):
        for screen in ((1, 1), (1, 40), (4, 1), (4, 40), (2, 7)):
            rows, columns = screen
            full = ("~" * columns,) * rows
            self.assertEqual(picture_of(screen, full), full)
            self.assertEqual(text_of(screen, full), full)
            self.assertEqual(len(load(screen, full)), 2 + rows * (columns + 1))
            for text in (full + ("a",), ("a" * (columns + 1),), full[:-1] + ("a" * (columns + 1),)):
                self.out_of_place(load, screen, text)
                self.out_of_place(picture_of, screen, text)

    def test_pictures_without_a_text(self):
        self.assertIsNone(text_of((2, 3), ("   ", "   ")))
        self.assertIsNone(text_of((2, 3), ("   ", "a  ")))
        self.assertIsNone(text_of((2, 3), (" a ", "   ")))
        self.assertIsNone(text_of((2, 3), ("a  ", " b ")))
        self.assertIsNone(text_of((3, 3), ("a  ", "   ", "b  ")))
        self.assertEqual(text_of((3, 3), ("a b", "c  ", "   ")), ("a b", "c"))
        self.assertEqual(text_of(picture=("a  ", "  b")[:1] + ("b  ",), screen=(2, 3)), ("a", "b"))

    def test_all_small_pictures(self):
        for screen in ((1, 3), (2, 2), (3, 1)):
            rows = ["".join(row) for row in product(" ab", repeat=screen[1])]
            for picture in product(rows, repeat=screen[0]):
                texts = [text for many in range(1, screen[0] + 1)
                         for text in product([row.rstrip() for row in rows if row[0] != " "], repeat=many)
                         if picture_by_hand(screen, text) == picture]
                self.assertEqual(text_of(screen, picture), texts[0] if texts else None)

    def test_what_is_refused(self):
        for text in BAD_TEXTS + ODD_THINGS:
            self.out_of_place(load, (2, 3), text)
            self.out_of_place(picture_of, (2, 3), text)
        for picture in (*ODD_THINGS, (), ("abc",), ("abc", "def", "ghi"), ["abc", "def"], ("abc", "de"), ("abc", None),
                        ("abc", "a%b"), ("ab\xe9", "abc"), ("abc", "ab\n"), "abcdef", ("abc", Equal())):
            self.out_of_place(text_of, (2, 3), picture)
        for sign in SIGNS:
            self.assertEqual(text_of((1, 2), (sign + "b",)), None if sign == " " else (sign + "b",))


class Papers(Case):
    def check(self, screen, cues, paper, holds):
        if holds:
            self.assertEqual(check_send(screen, cues, paper), paper[0])
        else:
            self.bad_paper(paper[0], check_send, screen, cues, paper)

    def look(self, screen, cues):
        expected = laid_by_hand(cues)
        word = "stream" if isinstance(expected, tuple) else "short"
        self.assertEqual(send_paper(screen, cues), (word, expected))
        self.check(screen, cues, (word, expected), True)
        if word == "stream":
            self.assertTrue(sends_by_hand(screen, cues, expected))
        return word

    def test_laid_by_hand(self):
        chance = chance_of(202)
        counted = {"stream": 0, "short": 0}
        for screen in SCREENS[:-1]:
            for many in (0, 1, 2, 3, 5):
                for widest in (4, 9, 15, 20):
                    for _ in range(6):
                        counted[self.look(screen, some_sendable(chance, screen, many, widest))] += 1
        for _ in range(20):
            counted[self.look((4, 40), some_sendable(chance, (4, 40), 4, 150))] += 1
        self.assertGreater(min(counted.values()), 150)

    def test_by_hand(self):
        self.assertEqual(send_paper((1, 1), ()), ("stream", ()))
        text = load((1, 1), A)
        self.assertEqual(send_paper((1, 1), ((4, 5, A),)), ("stream", text + (("swap",), ("wipe",))))
        self.assertEqual(send_paper((1, 1), ((5, 7, A),)),
                         ("stream", IDLE + text + (("swap",), ("idle",), ("wipe",))))
        self.assertEqual(send_paper((1, 1), ((3, 5, A),)), ("short", 0))
        self.assertEqual(send_paper((1, 1), ((0, 1999, A),)), ("short", 0))
        # Cues that touch have no wipe between them, so that one frame more is free.
        two = ((4, 9, A), (9, 10, ("b",)))
        other = load((1, 1), ("b",))
        self.assertEqual(send_paper((1, 1), two), ("stream", text + (("swap",),) + other + (("swap",), ("wipe",))))
        self.assertEqual(send_paper((1, 1), ((4, 8, A), (8, 10, A))), ("short", 1))
        self.assertEqual(send_paper((1, 1), ((4, 8, A), (9, 10, A))), ("short", 1))
        self.assertEqual(send_paper((1, 1), ((4, 6, A), (10, 11, A))),
                         ("stream", text + (("swap",), text[0], ("wipe",)) + text[1:] + (("swap",), ("wipe",))))
        self.assertEqual(send_paper((1, 1), ((4, 6, A), (9, 11, A))), ("short", 1))
        # The first one that is short is told.
        self.assertEqual(send_paper((1, 1), ((4, 5, A), (6, 7, A), (30, 40, A), (41, 42, A))), ("short", 1))
        self.assertEqual(send_paper(cues=((2, 5, A),), screen=(1, 1)), ("short", 0))

    def test_room_that_is_just_enough(self):
        chance = chance_of(203)
        for screen in SCREENS:
            for _ in range(15):
                one, other = some_text(chance, screen), some_text(chance, screen)
                first = len(load_by_hand(one))
                for gap in (0, 1, 2, 3):
                    second = first + 1 + len(load_by_hand(other))
                    if gap > 0:
                        second += 1
                    enough = ((first, second - gap, one), (second, second + 5, other))
                    self.assertEqual(self.look(screen, enough), "stream")
                    self.assertNotIn(("idle",), send_paper(screen, enough)[1][:second])
                    less = ((first, second - 1 - gap, one), (second - 1, second + 5, other))
                    self.assertEqual(send_paper(screen, less), ("short", 1))
                    less = ((first - 1, second - gap, one), (second, second + 5, other))
                    self.assertEqual(send_paper(screen, less), ("short", 0))
                    self.check(screen, less, ("short", 0), True)

    def test_other_streams_that_show_the_same(self):
        screen, cues = (1, 2), ((7, 9, AB), (16, 17, A))
        word, codes = send_paper(screen, cues)
        self.assertEqual(word, "stream")
        others = [
            # The load at other frames, or without what is not needed.
            load(screen, AB) + IDLE * 2 + codes[7:], IDLE * 4 + load(screen, AB)[2:] + codes[7:],
            # Swapped back where it ends, HIDDEN being blank.
            codes[:-1] + (("swap",),), codes[:9] + (("swap",),) + codes[10:],
            tuple(("clear",) if code == ("idle",) else code for code in codes)]
        for other in others:
            self.assertTrue(sends_by_hand(screen, cues, other), other)
            self.check(screen, cues, ("stream", other), True)
        # A single sign can be painted, though its load has no room.
        cues = ((1, 3, A), (4, 5, A))
        self.assertEqual(send_paper((1, 1), cues), ("short", 0))
        other = (("paint",), ("put", "a"), ("idle",), ("wipe",), ("put", "a"), ("wipe",))
        self.check((1, 1), cues, ("stream", other), True)
        self.check((1, 1), cues, ("short", 0), True)
        # One that shows another TEXT, too late, too early, or for too long.
        for other in (codes[:7] + codes[8:] + IDLE, IDLE + codes[:-1], codes[:9] + IDLE + codes[10:], codes[:-1],
                      codes + IDLE, codes[:-1] + IDLE, (), codes[:6] + (("put", "c"),) + codes[7:]):
            self.check((1, 2), ((7, 9, AB), (16, 17, A)), ("stream", other), False)
        self.check((1, 2), (), ("stream", ()), True)
        self.check((1, 2), (), ("stream", IDLE), False)

    def test_each_bent_stream(self):
        chance = chance_of(204)
        counted = {True: 0, False: 0}
        for screen in ((1, 1), (1, 3), (2, 2)):
            found = 0
            while found < 8:
                cues = some_sendable(chance, screen, 2, 12)
                word, codes = send_paper(screen, cues)
                if word == "stream":
                    found += 1
                    bent = [codes[:place] + (chance.choice(all_codes(screen, "ab ")),) + codes[place + 1:]
                            for place in range(len(codes)) for _ in range(3)]
                    bent += [codes[:place] + codes[place + 1:] for place in range(len(codes))]
                    bent += [codes[:place] + codes[place + 1:place + 2] + codes[place:place + 1] + codes[place + 2:]
                             for place in range(len(codes) - 1)]
                    bent += [codes[:place] + IDLE + codes[place:] for place in range(len(codes) + 1)]
                    for other in bent:
                        holds = sends_by_hand(screen, cues, other)
                        self.check(screen, cues, ("stream", other), holds)
                        counted[holds] += 1
        self.assertGreater(min(counted.values()), 300)

    def test_what_is_no_stream(self):
        cues = ((4, 5, A),)
        codes = send_paper((1, 1), cues)[1]
        for place in range(len(codes)):
            for code in BAD_CODES:
                self.check((1, 1), cues, ("stream", codes[:place] + (code,) + codes[place + 1:]), False)
        for thing in [thing for thing in ODD_THINGS] + [list(codes), "x" * 6, (None,) * 6, {}, (codes,), IDLE * 2001,
                                                        (("at", 0, 1),) + codes[1:], (("roll", 2),) + codes[1:]]:
            self.check((1, 1), cues, ("stream", thing), False)

    def test_short(self):
        cues = ((4, 5, A), (6, 7, A), (30, 40, A), (41, 42, A))
        self.check((1, 1), cues, ("short", 1), True)
        for number in [thing for thing in ODD_THINGS if thing.__class__ is not int] + [
                0, 2, 3, 4, -1, True, 1.0, "1", (1,), None, 10 ** 999, Equal()]:
            self.check((1, 1), cues, ("short", number), False)
        cues = ((0, 5, A),)
        self.check((1, 1), cues, ("short", 0), True)
        for number in (False, 0.0, "0", 1, -1, None, Equal()):
            self.check((1, 1), cues, ("short", number), False)
        for number in (0, 1, None, -1):
            self.check((1, 1), (), ("short", number), False)
            self.check((1, 1), ((4, 5, A),), ("short", number), False)

    def test_forms(self):
        codes = send_paper((1, 1), ((4, 5, A),))[1]
        for paper in (*ODD_THINGS, (), ("stream",), ("stream", codes, 0), ["stream", codes], (codes, "stream"),
                      ("Stream", codes), ("", codes), (None, codes), (0, 0), (Equal(), codes), (b"stream", codes),
                      (("stream",), codes), ("shorts", 0)):
            self.bad_paper("form", check_send, (1, 1), ((4, 5, A),), paper)


class PutOff(Case):
    def brute(self, screen, cues):
        """The least numbers of frames to put off, each in turn; and the least of the greatest, by all ways."""
        ways = []
        for starts in product(*[range(start, end) for start, end, _ in cues]):
            other = tuple((start, *cue[1:]) for start, cue in zip(starts, cues))
            if isinstance(laid_by_hand(other), tuple):
                ways.append(other)
        return ways

    def test_all_ways(self):
        chance = chance_of(205)
        counted = {"none": 0, "same": 0, "off": 0}
        for screen in ((1, 1), (1, 2), (2, 1)):
            for _ in range(80):
                cues = some_sendable(chance, screen, chance.randint(0, 3), 9, 0.5)
                ways = self.brute(screen, cues)
                found = put_off(screen, cues)
                if not ways:
                    self.assertIsNone(found)
                    counted["none"] += 1
                    continue
                self.assertIn(found, ways)
                # No way puts off one of them less.
                for other in ways:
                    self.assertTrue(all(cue[0] <= wise[0] for cue, wise in zip(found, other)))
                counted["same" if found == cues else "off"] += 1
        self.assertGreater(min(counted.values()), 20)

    def test_by_hand(self):
        self.assertEqual(put_off((1, 1), ()), ())
        self.assertEqual(put_off((1, 1), ((4, 5, A),)), ((4, 5, A),))
        self.assertEqual(put_off((1, 1), ((0, 5, A),)), ((4, 5, A),))
        self.assertIsNone(put_off((1, 1), ((0, 4, A),)))
        self.assertEqual(put_off((1, 1), ((4, 9, A), (9, 10, A))), ((4, 9, A), (9, 10, A)))
        # Where it no longer touches, there is a wipe.
        self.assertEqual(put_off((1, 1), ((4, 8, A), (8, 11, A))), ((4, 8, A), (10, 11, A)))
        self.assertIsNone(put_off((1, 1), ((4, 8, A), (8, 10, A))))
        self.assertEqual(put_off(cues=((2, 8, A), (8, 12, A), (12, 20, A)), screen=(1, 1)),
                         ((4, 8, A), (10, 12, A), (16, 20, A)))
        self.assertIsNone(put_off((1, 1), ((2, 8, A), (8, 12, A), (12, 16, A))))

    def test_what_is_put_off_can_be_sent(self):
        chance = chance_of(206)
        for screen in SCREENS[:-1]:
            for _ in range(20):
                found = put_off(screen, some_sendable(chance, screen, 4, 30))
                if found is not None:
                    self.assertEqual(send_paper(screen, found), ("stream", laid_by_hand(found)))
                    self.assertEqual(put_off(screen, found), found)


class Shows(Case):
    def test_all_pictures(self):
        chance = chance_of(207)
        for screen in ((1, 1), (1, 2), (2, 2), (4, 3)):
            for many in (0, 1, 2, 5, 20, 60):
                for _ in range(6):
                    codes = some_codes(chance, screen, many, "a ")
                    self.assertEqual(shows(screen, codes), shown_by_hand(screen, codes))

    def test_by_hand(self):
        self.assertEqual(shows((1, 1), ()), ())
        self.assertEqual(shows((1, 1), IDLE * 5), ())
        codes = (("paint",), ("put", "a"), ("idle",), ("put", "b"), ("wipe",), ("put", "b"), ("put", " "), ("put", "c"))
        self.assertEqual(shows((1, 1), codes), ((1, 3, ("a",)), (3, 4, ("b",)), (5, 6, ("b",)), (7, 8, ("c",))))
        self.assertEqual(shows(codes=(("paint",), ("put", "a")) * 2, screen=(1, 2)),
                         ((1, 3, ("a ",)), (3, 4, ("aa",))))

    def test_there_and_back(self):
        chance = chance_of(208)
        found = 0
        for screen in SCREENS[:-1]:
            for _ in range(60):
                cues = some_sendable(chance, screen, 4, 30, 0.7)
                word, codes = send_paper(screen, cues)
                if word == "stream":
                    found += 1
                    told = tuple((start, end, text_of(screen, picture)) for start, end, picture in shows(screen, codes))
                    self.assertEqual(told, flat(cues))
        self.assertGreater(found, 60)


class LateViewers(Case):
    def test_sure_from_the_first_swap_whose_load_has_not_begun(self):
        chance = chance_of(209)
        found = 0
        for screen in ((1, 1), (1, 2), (2, 2), (2, 6), (4, 3)):
            for _ in range(12):
                cues = some_sendable(chance, screen, 3, 20)
                word, codes = send_paper(screen, cues)
                if word == "stream":
                    found += 1
                    begun = []
                    free = 0
                    for start, _, text in cues:
                        frames = [frame for frame in range(free, start) if codes[frame] not in (("idle",), ("wipe",))]
                        begun.append((frames[0], start))
                        free = start + 1
                    for begin in range(0, len(codes), 3):
                        swaps = [swap for first, swap in begun if first >= begin]
                        if swaps:
                            for frame in (swaps[0], (swaps[0] + len(codes)) // 2, len(codes) - 1):
                                rows = sure(screen, codes[begin:frame + 1])
                                self.assertEqual(tuple("".join(row) for row in rows),
                                                 told_pictures(screen, cues)[frame])
        self.assertGreater(found, 15)


class Refusals(Case):
    calls = ((send_paper, ()), (check_send, (None,)), (put_off, ()))

    def test_screens(self):
        for thing in (*BAD_SCREENS, *ODD_THINGS):
            for call in (load, picture_of, text_of, send_paper, put_off, shows):
                self.refused(BadSize, "value", thing, call, thing, None)
            self.refused(BadSize, "value", thing, check_send, thing, None, None)

    def test_cues(self):
        good = ((6, 8, AB), (20, 21, ROWS))
        wrong = [thing for thing in ODD_THINGS] + [
            (6, 8), (6, 8, AB, 0), [6, 8, AB], (8, 8, AB), (8, 6, AB), (-1, 8, AB), (0, 2000, AB), (1999, 2000, AB),
            (1999, 1999, AB), (True, 8, AB), (0, True, AB), (6.0, 8, AB), (6, 8.0, AB), ("6", 8, AB), (None, 8, AB),
            (6, None, AB), (6, 10 ** 999, AB), (10 ** 999, 10 ** 999 + 1, AB), (Equal(), 8, AB), (6, Equal(), AB)]
        wrong += [(6, 8, text) for text in BAD_TEXTS + ODD_THINGS]
        for call, rest in self.calls:
            self.assertRaises(BadPaper, check_send, (2, 3), good, None)
            for thing in wrong:
                self.refused(BadCues, "number", 0, call, (2, 3), (thing,), *rest)
                self.refused(BadCues, "number", 0, call, (2, 3), (thing, None), *rest)
                self.refused(BadCues, "number", 1, call, (2, 3), ((0, 6, A), thing), *rest)
            for thing in [thing for thing in ODD_THINGS if not isinstance(thing, tuple)] + [
                    [good[0]], list(good), (good[0],) * 201, (None,) * 201]:
                self.refused(BadCues, "number", None, call, (2, 3), thing, *rest)
            # Ahead of the end of the one ahead.
            for cue in ((7, 9, AB), (6, 8, AB), (0, 1, AB), (0, 1999, AB)):
                self.refused(BadCues, "number", 1, call, (2, 3), (good[0], cue, None), *rest)
                self.refused(BadCues, "number", 2, call, (2, 3), (good[0], (8, 20, A), cue), *rest)
        for cues in (good, (good[0], (8, 9, AB)), ((0, 1999, AB),), ((1998, 1999, AB),)):
            send_paper((2, 3), cues)
            self.assertRaises(BadPaper, check_send, (2, 3), cues, None)

    def test_streams(self):
        for code in BAD_CODES:
            self.refused(BadCode, "place", 0, shows, (2, 3), (code,))
            self.refused(BadCode, "place", 2, shows, (2, 3), IDLE * 2 + (code, None))
        for thing in (None, [], list(IDLE), IDLE * 2001, (None,) * 2001, "idle", 0, {}):
            self.refused(BadCode, "place", None, shows, (2, 3), thing)


class Limits(Case):
    def test_two_hundred_cues(self):
        # Each load has four codes; with the swap and the wipe nine frames are enough for one cue and the next.
        cues = tuple((9 * number + 8, 9 * number + 10, A) for number in range(200))
        self.assertEqual(len(cues), 200)
        word, codes = send_paper((1, 1), cues)
        self.assertEqual((word, codes), ("stream", laid_by_hand(cues)))
        self.assertEqual(check_send((1, 1), cues, (word, codes)), "stream")
        self.assertEqual(put_off((1, 1), cues), cues)
        self.assertEqual(len(shows((1, 1), codes)), 200)
        more = cues + ((1990, 1999, A),)
        for call, rest in Refusals.calls:
            self.refused(BadCues, "number", None, call, (1, 1), more, *rest)

    def test_the_last_frame(self):
        begun = time.monotonic()
        for cues in (((4, 1999, A),), ((1998, 1999, A),), ((4, 5, A), (1995, 1999, A))):
            word, codes = send_paper((1, 1), cues)
            self.assertEqual((word, len(codes)), ("stream", 2000))
            self.assertEqual(check_send((1, 1), cues, (word, codes)), "stream")
            self.assertEqual(codes[1999], ("wipe",))
            self.refused(BadCues, "number", len(cues) - 1, send_paper, (1, 1), cues[:-1] + ((1998, 2000, A),))
        full = ("!" * 40,) * 4
        cues = tuple((166 + 170 * number, 166 + 170 * number + 160, full) for number in range(10))
        word, codes = send_paper((4, 40), cues)
        self.assertEqual((word, codes), ("stream", laid_by_hand(cues)))
        self.assertEqual(check_send((4, 40), cues, (word, codes)), "stream")
        self.assertEqual(shows((4, 40), codes), tuple((start, end, full) for start, end, _ in cues))
        self.assertEqual(pictures((4, 40), codes), pictures_by_hand((4, 40), codes))
        self.assertEqual(put_off((4, 40), ((0, 326, full),) + cues[1:]), cues)
        self.assertIsNone(put_off((4, 40), ((0, 166, full),) + cues[1:]))
        self.assertEqual(blank((4, 40)), pictures((4, 40), codes)[-1])
        self.assertLess(time.monotonic() - begun, 30)
        self.assertRaises(OutOfPlace, load, (4, 40), full + A)
