"""[18]: channels, what is zapped, pictures that no channel shows, and the papers on them."""

import time
from itertools import product

from captionhouse.decoders import first_state, is_state
from captionhouse.errors import BadCode, BadPaper, BadSize, OutOfPlace, TooGreat
from captionhouse.zaps import check_zap, good, zap_paper, zapped
from tests.brute import chance_of
from tests.helpers import ODD_THINGS, Case, Equal
from tests.searches import (clean_holds, good_by_hand, pairs_by_hand, phases_by_hand, shortest_zap, zapped_by_hand)
from tests.streams import SIGNS, first_by_hand, some_codes
from tests.test_decoders import BAD_CODES, BAD_SCREENS

IDLE = (("idle",),)
# Each by itself shows a blank picture, or "a"; taken in turn they show "b".
PLAIN = ((("put", "a"), ("swap",)), (("put", "b"), ("idle",)))
SMALL = ((1, 1), (1, 2), (2, 1), (2, 2))
# Of the greatest screen: three channels that load and swap, with as many phases as there can be.
GREAT = tuple(tuple([("at", row, 39 - row), ("put", "!~ "[row])] + [("idle",)] * (many - 4) + [("swap",), ("line",)])
              for row, many in enumerate((11, 10, 9)))


def some_channels(chance, screen, most, signs="a"):
    return tuple(some_codes(chance, screen, chance.randint(1, most), signs) for _ in range(chance.randint(1, 3)))


def some_hidden_channels(chance, screen, most):
    """Channels that show but what they wipe."""
    return tuple(tuple(code if code[0] not in ("swap", "paint", "roll") else ("idle",) for code in ring)
                 for ring in some_channels(chance, screen, most))


class Good(Case):
    def test_many_rounds(self):
        chance = chance_of(180)
        for screen in SMALL + ((1, 5), (3, 3), (4, 1), (4, 40)):
            for _ in range(12):
                channels = some_channels(chance, screen, 12, "ab")
                found = good(screen, channels)
                self.assertEqual(found, good_by_hand(screen, channels, 130))
                self.assertTrue(all(ahead < picture for ahead, picture in zip(found, found[1:])))

    def test_by_hand(self):
        self.assertEqual(good((1, 1), (IDLE,)), ((" ",),))
        self.assertEqual(good((1, 2), PLAIN), (("  ",), (" a",), ("a ",), ("aa",)))
        self.assertEqual(good(channels=((("paint",), ("put", "a")), (("paint",), ("put", "b"))), screen=(1, 1)),
                         ((" ",), ("a",), ("b",)))

    def test_a_picture_of_a_late_round(self):
        """A sign that goes through all columns, and the one that comes last of all."""
        ring = (("paint",), ("put", "a"))
        found = good((1, 40), (ring,))
        self.assertEqual(found, tuple(sorted((("a" * many).ljust(40),) for many in range(41))))
        ring = (("paint",), ("put", "a"), ("swap",), ("put", "b"))
        self.assertEqual(good((1, 40), (ring,)), good_by_hand((1, 40), (ring,), 300))
        ring = (("put", "b"), ("paint",)) + (("put", "a"),) * 10
        self.assertIn((" " + ("a" * 10 + "b") * 3 + "a" * 5 + "b",), good((1, 40), (ring,)))
        self.assertEqual(good((1, 40), (ring,)), good_by_hand((1, 40), (ring,), 20))


class Zapped(Case):
    def test_by_hand_decoders(self):
        chance = chance_of(181)
        for screen in SMALL + ((3, 7), (4, 40)):
            for many in (0, 1, 2, 5, 24, 100):
                channels = some_channels(chance, screen, 12, "ab")
                zap = tuple(chance.choices(range(len(channels)), k=many))
                found = zapped(screen, channels, zap)
                self.assertEqual(found, zapped_by_hand(screen, channels, zap))
                self.assertTrue(is_state(screen, found))
        self.assertEqual(zapped((1, 2), PLAIN, ()), first_state((1, 2)))
        self.assertEqual(zapped(zap=(1, 0, 1, 0), channels=PLAIN, screen=(1, 2)),
                         zapped_by_hand((1, 2), PLAIN, (1, 0, 1, 0)))
        # The frames go on while the channel is another one.
        self.assertEqual(zapped((1, 2), PLAIN, (1, 0)), ("hide", 0, 1, ("b ",), ("  ",)))
        self.assertEqual(zapped((1, 2), PLAIN, (1, 1, 0, 0)), ("hide", 0, 1, ("ba",), ("  ",)))

    def test_what_is_no_zap(self):
        self.assertEqual(zapped((1, 2), PLAIN, (1,) * 2000), zapped_by_hand((1, 2), PLAIN, (1,) * 2000))
        for zap in [thing for thing in ODD_THINGS] + [
                (2,), (-1,), (0, 2), (True,), (0, False), (0.0,), ("0",), (0, None), (0, 10 ** 999), [0], (0,) * 2001,
                (None,) * 2001, ((0,),), (Equal(),)]:
            self.out_of_place(zapped, (1, 2), PLAIN, zap)
        self.out_of_place(zapped, (1, 2), PLAIN[:1], (1,))
        self.assertEqual(zapped((1, 2), PLAIN + (IDLE,), (2,)), first_state((1, 2)))


class Papers(Case):
    def check(self, screen, channels, paper, holds):
        if holds:
            self.assertEqual(check_zap(screen, channels, paper), paper[0])
        else:
            self.bad_paper(paper[0], check_zap, screen, channels, paper)

    def test_all_zaps(self):
        """Against all ZAPS of up to six frames."""
        chance = chance_of(182)
        counted = {}
        for screen in SMALL:
            for _ in range(60):
                channels = some_channels(chance, screen, 3)
                expected = shortest_zap(screen, channels, 6 if len(channels) < 3 else 5)
                word, told = zap_paper(screen, channels)
                if expected is None:
                    self.assertTrue(word == "clean" or len(told) > 5)
                else:
                    self.assertEqual((word, len(told)), ("zap", expected))
                self.assertEqual(check_zap(screen, channels, (word, told)), word)
                key = len(told) if word == "zap" else word
                counted[key] = counted.get(key, 0) + 1
        self.assertGreater(counted["clean"], 10)
        self.assertGreater(len(counted), 4)

    def test_all_pairs(self):
        chance = chance_of(183)
        counted = {"zap": 0, "clean": 0}
        for screen in SMALL + ((2, 3),):
            for number in range(48):
                channels = (some_channels if number % 2 else some_hidden_channels)(chance, screen, 4)
                rows = pairs_by_hand(screen, channels)
                word, told = zap_paper(screen, channels)
                if word == "zap":
                    self.assertEqual(len(told), len(rows) - 1)
                    self.assertNotIn(zapped_by_hand(screen, channels, told)[3], good_by_hand(screen, channels, 80))
                else:
                    self.assertEqual(told, tuple(sorted(pair for row in rows for pair in row)))
                    self.assertTrue(clean_holds(screen, channels, told) if len(told) < 300 else True)
                self.assertEqual(check_zap(screen, channels, (word, told)), word)
                counted[word] += 1
        self.assertGreater(min(counted.values()), 20)

    def test_by_hand(self):
        self.assertEqual(zap_paper((1, 2), (IDLE,)), ("clean", ((0, first_state((1, 2))),)))
        self.assertEqual(zap_paper((1, 1), (IDLE * 3, IDLE * 2)),
                         ("clean", tuple((phase, first_state((1, 1))) for phase in range(6))))
        self.assertEqual(zap_paper((1, 2), PLAIN), ("zap", (1, 0)))
        self.assertEqual(zap_paper((1, 2), PLAIN), zap_paper((1, 2), PLAIN))
        # One channel alone is never false.
        chance = chance_of(184)
        for screen in ((2, 2), (4, 40)):
            for _ in range(10):
                channels = (some_codes(chance, screen, 9, "ab"),)
                self.assertEqual(zap_paper(screen, channels)[0], "clean")
                self.assertEqual(zap_paper(screen, channels * 3)[0], "clean")

    def test_zaps(self):
        for zap in ((1, 0), (1, 0, 1), (1, 1, 0, 0), (1, 0) + (1,) * 9, (1,) * 1998 + (1, 0), (1, 0) + (1,) * 1998):
            self.check((1, 2), PLAIN, ("zap", zap), True)
        for zap in ((), (0,), (1,), (0, 0), (1, 1), (0, 1), (1,) * 2000, (1, 0) + (1,) * 1999, (2, 0), (1, 2),
                    (True, 0), (1, False), (-1, 0), (1.0, 0), (1, "0"), (1, None), ((1, 0),), (1, 0, None), ("swap",),
                    (Equal(), Equal())):
            self.check((1, 2), PLAIN, ("zap", zap), False)
        self.check((1, 2), PLAIN[::-1], ("zap", (0, 1)), True)
        self.check((1, 2), PLAIN[::-1], ("zap", (1, 0)), False)
        self.check((1, 2), PLAIN[:1], ("zap", (1, 0)), False)

    def test_each_short_zap(self):
        chance = chance_of(185)
        counted = {True: 0, False: 0}
        for screen in ((1, 1), (1, 2)):
            for _ in range(20):
                channels = some_channels(chance, screen, 3)
                known = good_by_hand(screen, channels, 80)
                for many in range(1, 6 if len(channels) < 3 else 4):
                    for zap in product(range(len(channels)), repeat=many):
                        holds = zapped_by_hand(screen, channels, zap)[3] not in known
                        self.check(screen, channels, ("zap", zap), holds)
                        counted[holds] += 1
        self.assertGreater(min(counted.values()), 60)

    def test_each_bent_table(self):
        chance = chance_of(186)
        counted = {True: 0, False: 0}
        tables = []
        while len(tables) < 8:
            screen = chance.choice(((1, 1), (1, 2), (2, 1)))
            channels = some_hidden_channels(chance, screen, 4) if len(tables) % 2 else some_channels(chance, screen, 3)
            word, table = zap_paper(screen, channels)
            if word == "clean" and 3 <= len(table) <= 25:
                tables.append((screen, channels, table))
        for screen, channels, table in tables:
            self.check(screen, channels, ("clean", table), True)
            bent = [table[:place] + table[place + 1:] for place in range(len(table))]
            bent += [table[:place] + table[place:place + 1] + table[place:] for place in range(len(table))]
            bent += [table[:place] + table[place + 1:place + 2] + table[place:place + 1] + table[place + 2:]
                     for place in range(len(table) - 1)]
            for place, (phase, state) in enumerate(table):
                others = [(phase + 1, state), (phase - 1, state), (phase + phases_by_hand(channels), state),
                          (phase, ("paint",) + state[1:]), (phase, state[:2] + (screen[1] - 1,) + state[3:]),
                          (phase, state[:3] + (("~" * screen[1],) * screen[0], state[4])),
                          (phase, state[:4] + (("~" * screen[1],) * screen[0],)),
                          (phase, state[:4] + (("a" * screen[1],) * screen[0],))]
                for other in others:
                    if other not in table:
                        bent.append(tuple(sorted(table[:place] + (other,) + table[place + 1:])))
                        bent.append(tuple(sorted(table + (other,))))
            for other in bent:
                holds = clean_holds(screen, channels, other)
                self.check(screen, channels, ("clean", other), holds)
                counted[holds] += 1
        self.assertGreater(min(counted.values()), 3)

    def test_bigger_tables(self):
        """Pairs that do not come, but go on within the table."""
        screen, channels = (1, 1), (IDLE * 2,)
        first = first_state(screen)
        table = ((0, first), (1, first))
        self.assertEqual(zap_paper(screen, channels), ("clean", table))
        state = ("paint", 0, 0, (" ",), ("x",))
        self.check(screen, channels, ("clean", table + ((0, state), (1, state))), False)
        self.check(screen, channels, ("clean", ((0, first), (0, state), (1, first), (1, state))), True)
        self.check(screen, channels, ("clean", ((0, first), (0, state), (1, first))), False)
        # Closed, but false, or without the first one.
        state = ("paint", 0, 0, ("x",), (" ",))
        self.check(screen, channels, ("clean", ((0, first), (0, state), (1, first), (1, state))), False)
        state = ("hide", 0, 0, (" ",), ("x",))
        self.check(screen, channels, ("clean", ((0, state), (1, state))), False)
        self.check(screen, channels, ("clean", ()), False)

    def test_tables_of_other_things(self):
        first = first_state((1, 1))
        for thing in [thing for thing in ODD_THINGS] + [
                (), (0,), (0, first, 0), [0, first], first, (True, first), (0.0, first), ("0", first), (None, first),
                (1, first), (-1, first), (10 ** 999, first), (Equal(), first), (0, None), (0, list(first)),
                (0, first[:4]), (0, ("roll2",) + first[1:]), (0, first[:3] + (("ab",), (" ",))), (0, Equal()),
                (0, first[:1] + (False,) + first[2:]), (0, first[:4] + (("%",),))]:
            self.check((1, 1), (IDLE,), ("clean", (thing,)), False)
            self.check((1, 1), (IDLE,), ("clean", ((0, first), thing)), False)

    def test_forms(self):
        for paper in (*ODD_THINGS, (), ("zap",), ("zap", (1, 0), 0), ["zap", (1, 0)], ("zap", [1, 0]), ("zap", None),
                      ("zap", "10"), ("clean", [(0, first_state((1, 2)))]), ("clean", {}), ("Zap", (1, 0)),
                      ("", (1, 0)), (None, (1, 0)), (0, (1, 0)), (Equal(), (1, 0)), (b"zap", (1, 0)), ((1, 0), "zap"),
                      (("zap",), (1, 0))):
            self.bad_paper("form", check_zap, (1, 2), PLAIN, paper)


class Limits(Case):
    def test_pairs(self):
        for kind, screen, channels in LEAST_AND_MOST:
            if kind == "too great":
                self.refused(TooGreat, "most", 3000, zap_paper, screen, channels)
                self.assertEqual(sum(len(row) for row in pairs_by_hand(screen, channels)[:-1]), 3001)
                # The others answer all the same.
                good(screen, channels)
                self.bad_paper("zap", check_zap, screen, channels, ("zap", ()))
            else:
                word, told = zap_paper(screen, channels)
                self.assertEqual(word, kind)
                self.assertEqual(check_zap(screen, channels, (word, told)), word)
                rows = pairs_by_hand(screen, channels)
                self.assertEqual(sum(len(row) for row in rows[:-1]), 3000)
                self.assertEqual(len(told), 3000 if word == "clean" else len(rows) - 1)

    def test_great_screens(self):
        begun = time.monotonic()
        screen = (4, 40)
        ring = tuple([("put", "a")] * 11 + [("line",)])
        channels = (IDLE * 11, ring, IDLE * 7)
        self.assertEqual(good(screen, GREAT), good_by_hand(screen, GREAT, 70))
        self.refused(TooGreat, "most", 3000, zap_paper, screen, channels)
        word, told = zap_paper(screen, GREAT)
        self.assertEqual(word, "zap")
        self.assertEqual(check_zap(screen, GREAT, (word, told)), "zap")
        # As many phases as there can be.
        for channels in ((IDLE * 11, IDLE * 10, IDLE * 9), (IDLE * 11, IDLE * 10, IDLE * 8 + (("paint",),))):
            word, table = zap_paper(screen, channels)
            self.assertEqual(word, "clean")
            self.assertGreater(len(table), 980)
            self.assertEqual(check_zap(screen, channels, (word, table)), "clean")
            self.bad_paper("clean", check_zap, screen, channels, (word, table[:-1]))
        chance = chance_of(187)
        for _ in range(6):
            rings = tuple(some_codes(chance, screen, 12, SIGNS) for _ in range(3))
            self.assertEqual(good(screen, rings), good_by_hand(screen, rings, 70))
            try:
                paper = zap_paper(screen, rings)
                self.assertEqual(check_zap(screen, rings, paper), paper[0])
            except TooGreat:
                pass
            zap = tuple(chance.choices(range(3), k=2000))
            self.assertEqual(zapped(screen, rings, zap), zapped_by_hand(screen, rings, zap))
        self.assertLess(time.monotonic() - begun, 60)


class Refusals(Case):
    calls = ((good,), (zapped, None), (zap_paper,), (check_zap, None))

    def test_screens(self):
        for call, *rest in self.calls:
            for thing in (*BAD_SCREENS, *ODD_THINGS):
                self.refused(BadSize, "value", thing, call, thing, None, *rest)
            self.assertEqual(good((4, 40), (IDLE,)), (first_by_hand((4, 40))[3],))

    def test_channels(self):
        for call, *rest in self.calls:
            for thing in (*ODD_THINGS, (), [IDLE], (IDLE,) * 4, (None,) * 4, {0: IDLE}):
                if not (isinstance(thing, tuple) and 1 <= len(thing) <= 3):
                    self.refused(BadCode, "place", (), call, (2, 3), thing, *rest)
            for thing in (*ODD_THINGS, (), list(IDLE), IDLE * 13, (None,) * 13, "idle", ("idle",)):
                for number in range(3):
                    channels = (IDLE * 12, IDLE, IDLE * 5)[:number] + (thing,)
                    self.refused(BadCode, "place", number, call, (2, 3), channels, *rest)
                self.refused(BadCode, "place", 0, call, (2, 3), (thing, IDLE, None), *rest)
                self.refused(BadCode, "place", 1, call, (2, 3), (IDLE, thing, IDLE), *rest)
            for code in BAD_CODES:
                self.refused(BadCode, "place", 0, call, (2, 3), ((code,),), *rest)
                self.refused(BadCode, "place", 1, call, (2, 3), (IDLE, IDLE * 11 + (code,)), *rest)
            # Each place is one of another screen.
            self.refused(BadCode, "place", 0, call, (2, 3), (IDLE + (("at", 0, 3),),), *rest)

    def test_channels_of_each_length(self):
        for many in range(1, 13):
            for count in range(1, 4):
                channels = (IDLE * many,) * count
                self.assertEqual(good((1, 1), channels), ((" ",),))
                self.assertEqual(zapped((1, 1), channels, (count - 1,)), first_state((1, 1)))
                self.assertEqual(len(zap_paper((1, 1), channels)[1]), many)
                self.assertRaises(BadPaper, check_zap, (1, 1), channels, None)
                self.assertRaises(OutOfPlace, zapped, (1, 1), channels, (count,))


C = ("clear",)
AT = tuple(("at", 0, column) for column in range(40))
# What finds just 3,000 pairs, or one more, ahead of a false PICTURE, or at all.
LEAST_AND_MOST = (
    ("clean", (1, 3), ((("put", "b"), ("line",), ("put", "a"), ("at", 0, 1), C, C, ("hide",), ("idle",)),
                       (("rub",), ("put", "a"), ("rub",), ("at", 0, 0), ("line",)), (("wipe",),))),
    ("clean", (1, 3), ((("idle",), ("hide",)),
                       (("rub",), ("tail",), ("put", "b"), C, ("tail",), ("at", 0, 0), ("put", "a"), ("wipe",), ("hide",
                                                                                                                 ),
                        ("idle",)),
                       (("rub",), ("put", "b"), ("line",), ("at", 0, 2), ("tail",), ("line",), ("put", "a"), C))),
    ("zap", (1, 40), ((C, AT[12], C, C, AT[20], C, C, C, C, ("put", "a"), C),
                      (C, C, C, C, C, AT[4], C, C, C, ("swap",)), (C, C, C, C, C, AT[30], C, C, C))),
    ("zap", (1, 40), ((C, C, C, AT[0], ("put", "a"), C, C, C, C, AT[33], C),
                      (C, AT[19], AT[20], C, C, AT[16], C, ("swap",), C, C, C, AT[30]), (C,) * 7)),
    # This would be clean.
    ("too great", (1, 3), ((("put", "a"), ("at", 0, 1), ("hide",), ("at", 0, 2), ("line",), ("rub",), ("wipe",), C),
                           (("idle",), ("hide",), C),
                           (("at", 0, 1), ("tail",), ("tail",), ("put", "a"), ("hide",), C, ("put", "a")))),
    # In this one there would be a false PICTURE.
    ("too great", (1, 40), ((C, C, C, AT[19], C, ("put", "a"), C, AT[2], AT[2], C, AT[10], AT[12]),
                            (C, C, AT[26], AT[35], ("swap",), AT[2], AT[14], AT[16], AT[9], C, C), (C,) * 5)),
)
