"""[19]: codes that are lost, pictures that are not fair, and the papers on them."""

import time
from itertools import combinations

from captionhouse.decoders import blank, first_state, led, pictures
from captionhouse.errors import BadCode, BadPaper, BadSize, OutOfPlace, TooGreat
from captionhouse.losses import check_loss, fair, least_loss, loss_paper
from tests.brute import chance_of
from tests.helpers import ODD_THINGS, Case, Equal
from tests.searches import (fair_by_hand, is_unfair, least_unfair, safe_holds, states_with_lost, triples_by_hand)
from tests.streams import SIGNS, some_codes
from tests.test_decoders import BAD_CODES, BAD_SCREENS

IDLE = (("idle",),)
SMALL = ((1, 1), (1, 2), (2, 1), (2, 2))
# One who loses the second "put" sees "a" alone; one who loses a "swap" sees nothing that was not shown.
WORD = (("put", "a"), ("put", "b"), ("swap",), ("wipe",))


def late_put(many, place, behind=()):
    """A STREAM of so many CODES, one of which puts a sign that is never shown, with other ones at its end."""
    return IDLE * place + (("put", "a"),) + IDLE * (many - place - 1 - len(behind)) + behind


def some_pauses(chance, screen, many):
    """A STREAM half of which is idle."""
    return tuple(code if chance.random() < 0.5 else IDLE[0] for code in some_codes(chance, screen, many, "a"))


class Fair(Case):
    def test_all_pictures(self):
        chance = chance_of(190)
        for screen in SMALL + ((3, 3), (4, 40)):
            for many in (0, 1, 2, 5, 20, 100):
                codes = some_codes(chance, screen, many, "ab")
                found = fair(screen, codes)
                self.assertEqual(found, fair_by_hand(screen, codes))
                self.assertEqual(found, tuple(sorted(set(pictures(screen, codes) + (blank(screen),)))))
        self.assertEqual(fair((2, 2), ()), (("  ", "  "),))
        self.assertEqual(fair(codes=WORD, screen=(1, 2)), (("  ",), ("ab",)))


class Papers(Case):
    def check(self, screen, codes, most, paper, holds):
        if holds:
            self.assertEqual(check_loss(screen, codes, most, paper), paper[0])
        else:
            self.bad_paper(paper[0], check_loss, screen, codes, most, paper)

    def look(self, screen, codes, most, least):
        """The paper with so many at most, if least is how few make a PICTURE that is not FAIR."""
        word, told = loss_paper(screen, codes, most)
        if least is not None and least <= most:
            self.assertEqual((word, len(told)), ("lost", least))
            self.assertTrue(is_unfair(screen, codes, told))
        else:
            self.assertEqual((word, told), ("safe", triples_by_hand(screen, codes, most)))
        self.assertEqual(check_loss(screen, codes, most, (word, told)), word)
        return word

    def test_all_sets_of_lost_codes(self):
        chance = chance_of(191)
        counted = {}
        for screen in SMALL + ((2, 3),):
            for number in range(60):
                codes = (some_codes if number % 3 == 0 else some_pauses)(chance, screen, chance.randint(0, 8))
                least = least_unfair(screen, codes)
                self.assertEqual(least_loss(screen, codes), least)
                for most in (0, 1, 2, 3, 9):
                    word = self.look(screen, codes, most, least)
                    counted[word, least] = counted.get((word, least), 0) + 1
        for key in (("safe", None), ("safe", 1), ("lost", 1), ("safe", 2), ("lost", 2)):
            self.assertGreater(counted.get(key, 0), 1, key)

    def test_by_hand(self):
        first = first_state((1, 1))
        for most in (0, 1, 9):
            self.assertEqual(loss_paper((1, 1), (), most), ("safe", ((0, 0, first),)))
            self.assertEqual(loss_paper((1, 1), IDLE * 3, most), ("safe", tuple((k, 0, first) for k in range(4))))
            self.assertEqual(loss_paper((1, 2), WORD[:2], most)[0], "safe")
        self.assertIsNone(least_loss((1, 1), ()))
        self.assertIsNone(least_loss((1, 1), IDLE * 2000))
        self.assertIsNone(least_loss(codes=WORD[:2], screen=(1, 2)))
        self.assertEqual(least_loss((1, 2), WORD), 1)
        self.assertEqual(loss_paper((1, 2), WORD, 0), ("safe", tuple(
            (frame, 0, state) for frame, state in enumerate(states_with_lost((1, 2), WORD, ())))))
        word, told = loss_paper((1, 2), WORD, 1)
        self.assertEqual(word, "lost")
        self.assertIn(told, ((0,), (1,)))
        self.assertEqual(loss_paper((1, 2), WORD, 9), ("lost", told))
        # What is lost is left out, the swap too; only of two signs together another one is seen.
        codes = (("put", "a"), ("at", 0, 0), ("put", "b"), ("swap",))
        self.assertEqual(least_loss((1, 1), codes), 1)
        self.assertEqual(loss_paper((1, 1), codes, 1), ("lost", (2,)))
        codes = (("put", "a"), ("put", "b"), ("put", "c"), ("wipe",), ("put", "a"), ("swap",))
        self.assertEqual(least_loss((1, 1), codes), 1)
        codes = (("put", "a"), ("put", "a"), ("put", "b"), ("put", "b"), ("swap",))
        self.assertEqual(least_loss((1, 1), codes), 2)
        self.assertEqual(loss_paper((1, 1), codes, 2), ("lost", (2, 3)))
        self.assertEqual(loss_paper((1, 1), codes, 1)[0], "safe")

    def test_the_greatest_number_of_lost_ones(self):
        """Signs that stand over others, ten of them and nine."""
        for many in (8, 9):
            codes = (("put", "a"),) + (("put", "b"),) * many + (("swap",),)
            self.assertEqual(least_loss((1, 1), codes), many)
            self.assertEqual(loss_paper((1, 1), codes, most=9), ("lost", tuple(range(1, many + 1))))
            self.look((1, 1), codes, many - 1, many)
        codes = (("put", "a"),) + (("put", "b"),) * 10 + (("swap",),)
        self.assertEqual(least_loss((1, 1), codes), 10)
        self.look((1, 1), codes, 9, 10)

    def test_each_set_of_frames(self):
        chance = chance_of(192)
        counted = {True: 0, False: 0}
        for screen in ((1, 1), (1, 2), (2, 1)):
            for _ in range(30):
                codes = some_codes(chance, screen, 2, "ab") + (("put", "x"), ("swap",), ("put", "a"))
                for many in range(6):
                    for frames in combinations(range(5), many):
                        for most in (0, 1, 3, 9):
                            holds = many <= most and is_unfair(screen, codes, frames)
                            self.check(screen, codes, most, ("lost", frames), holds)
                            counted[holds] += 1
        self.assertGreater(min(counted.values()), 200, counted)

    def test_frames(self):
        for most, frames in ((1, (1,)), (1, (0,)), (9, (1, 3)), (2, (0, 3)), (9, (1,))):
            self.check((1, 2), WORD, most, ("lost", frames), True)
        for most, frames in ((0, (1,)), (9, ()), (9, (2,)), (9, (0, 1)), (1, (1, 3)), (2, (0, 1, 2)), (9, (3, 1)),
                             (9, (1, 1)), (9, (4,)), (9, (1, 4)), (9, (-1,)), (9, (-3, 1)), (9, (True,)),
                             (9, (False, 3)), (9, (1.0,)), (9, ("1",)), (9, (None,)), (9, (1, None)), (9, ((1,),)),
                             (9, (1, 10 ** 999)), (9, (Equal(),)), (9, tuple(range(4)) * 3)):
            self.check((1, 2), WORD, most, ("lost", frames), False)
        self.check((1, 2), (), 9, ("lost", (0,)), False)
        self.check((1, 2), (), 9, ("lost", ()), False)
        # Ten frames of a stream that has them.
        self.check((1, 2), WORD[:2] + IDLE * 20 + WORD[2:], 9, ("lost", (1,) + tuple(range(5, 13))), True)
        self.check((1, 2), WORD[:2] + IDLE * 20 + WORD[2:], 9, ("lost", (1,) + tuple(range(5, 14))), False)

    def test_each_bent_table(self):
        chance = chance_of(193)
        counted = {True: 0, False: 0}
        tables = []
        while len(tables) < 8:
            screen = chance.choice(((1, 1), (1, 2), (2, 1)))
            codes = some_pauses(chance, screen, chance.randint(2, 5))
            most = chance.choice((0, 1, 2, 9))
            word, table = loss_paper(screen, codes, most)
            if word == "safe" and 4 + most < len(table) <= 25:
                tables.append((screen, codes, most, table))
        for screen, codes, most, table in tables:
            self.check(screen, codes, most, ("safe", table), True)
            bent = [table[:place] + table[place + 1:] for place in range(len(table))]
            bent += [table[:place] + table[place:place + 1] + table[place:] for place in range(len(table))]
            bent += [table[:place] + table[place + 1:place + 2] + table[place:place + 1] + table[place + 2:]
                     for place in range(len(table) - 1)]
            for place, (frame, lost, state) in enumerate(table):
                others = [(frame + 1, lost, state), (frame - 1, lost, state), (frame, lost + 1, state),
                          (frame, lost - 1, state), (frame, 0, state), (frame, lost, ("paint",) + state[1:]),
                          (frame, most, state), (frame, most + 1, state), (len(codes) + 1, lost, state),
                          (frame, lost, state[:3] + (("~" * screen[1],) * screen[0], state[4])),
                          (frame, lost, state[:4] + (("~" * screen[1],) * screen[0],)),
                          (len(codes), lost, state[:4] + (("~" * screen[1],) * screen[0],))]
                for other in others:
                    bent.append(tuple(sorted(set(table[:place] + (other,) + table[place + 1:]))))
                    bent.append(tuple(sorted(set(table + (other,)))))
            for other in bent:
                holds = safe_holds(screen, codes, most, other)
                self.check(screen, codes, most, ("safe", other), holds)
                counted[holds] += 1
        self.assertGreater(min(counted.values()), 60)

    def test_lesser_and_more_than_come(self):
        """Tables that tell a lesser LOST, or more triples, and still go on within themselves."""
        screen, codes = (1, 1), (("put", "a"), ("idle",))
        first = first_state(screen)
        put = led(screen, first, codes)
        table = ((0, 0, first), (1, 0, put), (1, 1, first), (2, 0, put), (2, 1, first))
        self.assertEqual(loss_paper(screen, codes, 1), ("safe", tuple(sorted(table))))
        for holds, other in (
                (True, ((0, 0, first), (1, 0, first), (1, 0, put), (2, 0, first), (2, 0, put))),
                (True, table + ((2, 1, put),)), (True, table + ((1, 1, put), (2, 1, put))),
                (True, table + ((2, 0, first),)), (True, table[:4] + ((2, 0, first),)),
                (False, table[:4]), (False, table[:3] + table[4:]), (False, table[1:]),
                (True, table + ((0, 1, put),)), (True, table + ((0, 1, put), (1, 1, put), (2, 1, put))),
                (False, table + ((1, 0, first),)), (False, table[:3] + ((2, 1, put), (2, 1, first)))):
            self.assertEqual(safe_holds(screen, codes, 1, tuple(sorted(other))), holds)
            self.check(screen, codes, 1, ("safe", tuple(sorted(other))), holds)
        # With fewer lost ones less is asked, with more of them more.
        self.check(screen, codes, 0, ("safe", ((0, 0, first), (1, 0, put), (2, 0, put))), True)
        self.check(screen, codes, 0, ("safe", table), False)
        self.check(screen, codes, 1, ("safe", ((0, 0, first), (1, 0, put), (2, 0, put))), False)
        self.check(screen, codes, 9, ("safe", tuple(sorted(table))), True)

    def test_tables_of_other_things(self):
        first = first_state((1, 1))
        for thing in [thing for thing in ODD_THINGS] + [
                (), (0, 0), (0, 0, first, 0), [0, 0, first], (0, first), (True, 0, first), (0, False, first),
                (0.0, 0, first), (0, "0", first), (None, 0, first), (1, 0, first), (0, -1, first), (-1, 0, first),
                (0, 10, first), (10 ** 999, 0, first), (Equal(), 0, first), (0, Equal(), first), (0, 0, None),
                (0, 0, list(first)), (0, 0, first[:4]), (0, 0, ("roll2",) + first[1:]), (0, 0, Equal()),
                (0, 0, first[:3] + (("ab",), (" ",))), (0, 0, first[:4] + (("%",),))]:
            self.check((1, 1), (), 9, ("safe", (thing,)), False)
            self.check((1, 1), (), 9, ("safe", ((0, 0, first), thing)), False)
        self.check((1, 1), (), 9, ("safe", ()), False)
        self.check((1, 1), (), 9, ("safe", ((0, 0, first),)), True)
        self.check((1, 1), (), 9, ("safe", ((0, 0, first), (0, 9, first))), True)

    def test_forms(self):
        for paper in (*ODD_THINGS, (), ("lost",), ("lost", (1,), 0), ["lost", (1,)], ("lost", [1]), ("lost", None),
                      ("lost", 1), ("safe", [(0, 0, first_state((1, 2)))]), ("safe", {}), ("Lost", (1,)), ("", (1,)),
                      (None, (1,)), (0, (1,)), (Equal(), (1,)), (b"lost", (1,)), ((1,), "lost"), (("lost",), (1,))):
            self.bad_paper("form", check_loss, (1, 2), WORD, 1, paper)


class Limits(Case):
    def refuses(self, screen, codes, most):
        self.refused(TooGreat, "most", 3000, loss_paper, screen, codes, most)
        self.bad_paper("lost", check_loss, screen, codes, most, ("lost", ()))

    def test_just_as_many(self):
        """Behind the put there are two STATES of each FRAME, one of them with one lost code."""
        for screen in ((1, 1), (4, 40)):
            word, table = loss_paper(screen, late_put(2000, 1001), 1)
            self.assertEqual((word, len(table)), ("safe", 3000))
            self.assertEqual(check_loss(screen, late_put(2000, 1001), 1, (word, table)), "safe")
            self.assertEqual(len(loss_paper(screen, late_put(2000, 1001), 9)[1]), 3000)
            self.assertIsNone(least_loss(screen, late_put(2000, 1001)))
            self.assertEqual(len(loss_paper(screen, late_put(2000, 0), 0)[1]), 2001)
            self.refuses(screen, late_put(2000, 1000), 1)
            self.refuses(screen, late_put(2000, 1000), 9)
            self.refused(TooGreat, "most", 3000, least_loss, screen, late_put(2000, 1000))
            self.assertEqual(len(loss_paper(screen, IDLE * 2000, 9)[1]), 2001)

    def test_just_as_many_with_a_picture_that_is_not_fair(self):
        """All FAIR triples up to the least number of lost ones count, whatever more might be lost."""
        behind = (("wipe",), ("put", "b"), ("swap",))
        for most in (1, 2, 9):
            for many, place in ((1501, 3), (1500, 1), (2000, 1001)):
                codes = late_put(many, place, behind)
                self.assertEqual(loss_paper((1, 1), codes, most), ("lost", (many - 2,)))
                self.assertEqual(least_loss((1, 1), codes), 1)
                codes = late_put(many, place - 1, behind)
                self.refuses((1, 1), codes, most)
                self.refused(TooGreat, "most", 3000, least_loss, (1, 1), codes)
                # A paper is looked at all the same.
                self.assertEqual(check_loss((1, 1), codes, most, ("lost", (many - 2,))), "lost")
                self.assertEqual(len(loss_paper((1, 1), codes, 0)[1]), many + 1)
        # By hand, with fewer of them.
        codes = late_put(12, 3, behind)
        ahead = [states_with_lost((1, 1), codes, frames) for frames in [()] + [(frame,) for frame in range(12)]]
        known = {(frame, state) for states in ahead for frame, state in enumerate(states)
                 if all(other[3] in fair((1, 1), codes) for other in states[:frame + 1])}
        self.assertEqual(len(known), 2 * 12 + 1 - 3)


class Refusals(Case):
    calls = ((fair, ()), (least_loss, ()), (loss_paper, (0,)), (check_loss, (0, None)))

    def test_screens(self):
        for call, rest in self.calls:
            for thing in (*BAD_SCREENS, *ODD_THINGS):
                self.refused(BadSize, "value", thing, call, thing, None, *[None for _ in rest])

    def test_streams(self):
        for call, rest in self.calls:
            for rest in (rest, [None for _ in rest]):
                for code in BAD_CODES:
                    self.refused(BadCode, "place", 0, call, (2, 3), (code,), *rest)
                    self.refused(BadCode, "place", 2, call, (2, 3), IDLE * 2 + (code, None), *rest)
                for thing in (None, [], list(IDLE), IDLE * 2001, (None,) * 2001, "idle", 0, {}):
                    self.refused(BadCode, "place", None, call, (2, 3), thing, *rest)

    def test_numbers(self):
        for most in (-1, 10, None, True, False, 1.0, "1", (1,), 10 ** 999, -10 ** 999, Equal()):
            self.out_of_place(loss_paper, (1, 2), WORD, most)
            self.out_of_place(check_loss, (1, 2), WORD, most, None)
            self.out_of_place(check_loss, (1, 2), (), most, None)
        for most in range(10):
            self.assertEqual(loss_paper((1, 2), WORD, most)[0], "lost" if most else "safe")
            self.assertEqual(loss_paper((1, 2), (), most)[0], "safe")
            self.assertRaises(BadPaper, check_loss, (1, 2), WORD, most, None)

    def test_great_screens(self):
        begun = time.monotonic()
        chance = chance_of(194)
        for _ in range(4):
            codes = some_codes(chance, (4, 40), 2000, SIGNS)
            self.assertEqual(fair((4, 40), codes), fair_by_hand((4, 40), codes))
            word, table = loss_paper((4, 40), codes, 0)
            self.assertEqual((word, len(table)), ("safe", 2001))
            self.assertEqual(check_loss((4, 40), codes, 0, (word, table)), "safe")
            codes = some_codes(chance, (4, 40), 40, SIGNS)
            paper = loss_paper((4, 40), codes, 1)
            self.assertEqual(check_loss((4, 40), codes, 1, paper), paper[0])
        self.assertLess(time.monotonic() - begun, 60)
