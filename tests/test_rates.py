"""[10]: chains of rates, for all frames at once, and files that they move."""

import time
from math import lcm

from captionhouse.errors import BadChain, BadFile, OutOfPlace, TooGreat
from captionhouse.files import need_file
from captionhouse.rates import (alike_chains, apart_chains, comes_back, least_kept, moved, moved_file, need_chain,
                                period, slope)
from tests.brute import chance_of, some_file
from tests.helpers import ODD_THINGS, Case, Equal
from tests.pictures import bottom_of, moved_by_hand, some_chain

A, B = ("a",), ("b",)
GREAT = 10 ** 12
ROUNDINGS = ("down", "up", "near")
GREAT_CHAINS = (
    ((1999, 10, "near"), (2000, 10, "up"), (1997, 10, "down"), (1999, 100, "near")),
    ((1, 10, "near"), (1, 10, "up"), (1, 10, "down"), (1, 100, "near")),
    ((1999, 17, "down"), (1997, 17, "near"), (1993, 17, "up"), (1987, 20, "near")),
    ((3, 50, "near"), (1999, 2000, "down"), (2000, 1, "up"), (7, 1, "near")),
)


class NeedChain(Case):
    def wrong(self, number, thing):
        self.refused(BadChain, "number", number, need_chain, thing)

    def test_it_gives_the_very_thing(self):
        for chain in ((), ((1, 1, "down"),), ((2000, 2000, "up"),), ((1, 1, "near"),) * 4,
                      ((1, 2000, "up"), (1, 50, "up")),
                      *GREAT_CHAINS):
            self.assertIs(need_chain(chain), chain)
            self.assertIs(need_chain(thing=chain), chain)

    def test_no_tuple_of_at_most_four_things(self):
        for thing in [((1, 1, "up"),) * 5, (None,) * 5, [(1, 1, "up")], None, "up", 0, {}, True, b"", iter(())]:
            self.wrong(None, thing)
        self.wrong(0, (None,) * 4)

    def test_wrong_steps_have_their_numbers(self):
        wrong = [None, 3, "abc", (1, 1), (1, 1, "up", 1), [1, 1, "up"], (), (0, 1, "up"), (1, 0, "up"), (-1, 1, "up"),
                 (1, -1, "up"), (2001, 1, "up"), (1, 2001, "up"), (True, 1, "up"), (1, True, "up"), (1.0, 1, "up"),
                 (1, 1.0, "up"), ("1", 1, "up"), (None, 1, "up"), (1, None, "up"), (1, 1, "UP"), (1, 1, ""),
                 (1, 1, None),
                 (1, 1, "u"), (1, 1, "nearest"), (1, 1, b"up"), (1, 1, ("up",)), (1, 1, ["up"]), (1, 1, Equal()),
                 (10 ** 999, 1, "up"), (1, 10 ** 999, "up"), (Equal(), 1, "up")]
        for thing in wrong:
            self.wrong(0, (thing,))
            self.wrong(1, ((4, 5, "down"), thing, None))
            self.wrong(3, ((4, 5, "down"),) * 3 + (thing,))
        for thing in ODD_THINGS:
            self.assertRaises(BadChain, need_chain, thing)
            self.assertRaises(BadChain, need_chain, (thing,))

    def test_the_product_of_the_ds(self):
        chain = ((1, 2000, "up"), (1, 50, "up"), (2000, 1, "up"), (2000, 1, "up"))
        self.assertIs(need_chain(chain), chain)
        self.wrong(1, ((1, 2000, "up"), (1, 51, "up")))
        self.wrong(2, ((1, 2000, "up"), (1, 50, "up"), (1, 2, "up")))
        self.wrong(3, ((1, 2000, "up"), (1, 50, "up"), (1, 1, "up"), (1, 2, "up")))
        self.wrong(3, ((1, 11, "up"), (1, 9, "up"), (1, 1000, "up"), (1, 2, "up")))
        # A step that is wrong by itself, ahead of the product, or behind it.
        self.wrong(0, ((0, 2000, "up"), (1, 51, "up")))
        self.wrong(1, ((1, 2000, "up"), (1, 51, "up"), None))
        self.wrong(1, ((1, 2000, "up"), None, (1, 51, "up")))


class AgainstManyFrames(Case):
    def test_moved(self):
        chance = chance_of(100)
        for _ in range(300):
            chain = some_chain(chance, 4, 9)
            for frame in list(range(30)) + [chance.randint(0, GREAT)]:
                self.assertEqual(moved(chain, frame), moved_by_hand(chain, frame))

    def test_each_rounding(self):
        told = {"down": [0, 0, 0, 0, 1, 1, 1, 1, 2], "up": [0, 1, 1, 1, 1, 2, 2, 2, 2],
                "near": [0, 0, 1, 1, 1, 1, 2, 2, 2]}
        for rounding, frames in told.items():
            self.assertEqual([moved(((1, 4, rounding),), frame) for frame in range(9)], frames)
        thirds = {"down": [0, 0, 1, 2, 2, 3, 4], "up": [0, 1, 2, 2, 3, 4, 4], "near": [0, 1, 1, 2, 3, 3, 4]}
        for rounding, frames in thirds.items():
            self.assertEqual([moved(((2, 3, rounding),), frame) for frame in range(7)], frames)
        self.assertEqual([moved(((1, 2, "near"),), frame) for frame in (1, 3, 5, 7)], [1, 2, 3, 4])
        self.assertEqual([moved(((3, 2, "near"),), frame) for frame in (1, 3, 5)], [2, 5, 8])

    def test_one_step_behind_the_other(self):
        chain = ((1, 2, "down"), (3, 1, "up"), (1, 4, "near"))
        self.assertEqual([moved(chain, frame) for frame in (0, 1, 2, 3, 4, 5, 6)], [0, 0, 1, 1, 2, 2, 2])
        self.assertEqual(moved(((1, 2, "down"), (2, 1, "down")), 5), 4)
        self.assertEqual(moved(((2, 1, "down"), (1, 2, "down")), 5), 5)
        for frame in (0, 7, GREAT):
            self.assertEqual(moved((), frame), frame)
        self.assertEqual(moved(((2000, 1, "up"),) * 4, GREAT), 2000 ** 4 * GREAT)

    def test_period(self):
        chance = chance_of(101)
        least = 0
        for _ in range(400):
            chain = some_chain(chance, 3, 5)
            bottom = bottom_of(chain)
            frames = [moved_by_hand(chain, frame) for frame in range(3 * bottom + 3)]
            told, rise = period(chain)
            found = [many for many in range(1, bottom + 1)
                     if len({after - ahead for ahead, after in zip(frames, frames[many:])}) == 1]
            self.assertEqual(told, found[0])
            self.assertEqual({after - ahead for ahead, after in zip(frames, frames[told:])}, {rise})
            top, below = slope(chain)
            self.assertEqual(rise * below, told * top)
            self.assertEqual(bottom % told, 0)
            least += told < bottom
        self.assertGreater(least, 50)

    def test_slope(self):
        chance = chance_of(102)
        for _ in range(200):
            chain = some_chain(chance, 4, 9)
            top, bottom = slope(chain)
            above = 1
            for step in chain:
                above *= step[0]
            self.assertEqual(top * bottom_of(chain), bottom * above)
            self.assertFalse([k for k in range(2, 7000) if top % k == 0 and bottom % k == 0])
        self.assertEqual(slope(()), (1, 1))
        self.assertEqual(slope(((24, 25, "near"), (25, 24, "up"))), (1, 1))
        self.assertEqual(slope(chain=((1001, 1000, "near"), (24, 30, "up"))), (1001, 1250))
        self.assertEqual(slope(((2000, 1, "up"),) * 4), (2000 ** 4, 1))

    def test_two_chains(self):
        chance = chance_of(103)
        alike = apart = 0
        for number in range(3000):
            greatest = 3 if number % 2 else 5
            one, other = some_chain(chance, 3, greatest), some_chain(chance, 3, greatest)
            bound = lcm(bottom_of(one), bottom_of(other))
            unlike = [frame for frame in range(bound + 1) if moved_by_hand(one, frame) != moved_by_hand(other, frame)]
            self.assertEqual(apart_chains(one, other), unlike[0] if unlike else None)
            self.assertIs(alike_chains(one, other), not unlike)
            alike += not unlike and one != other
            apart += bool(unlike) and unlike[0] > 1
        self.assertGreater(alike, 50)
        self.assertGreater(apart, 200)

    def test_comes_back(self):
        chance = chance_of(104)
        found = 0
        for _ in range(1500):
            one = some_chain(chance, 1, 6)
            back = tuple((bottom, top, chance.choice(ROUNDINGS)) for top, bottom, _ in one[::-1])
            for chain in (one + back, some_chain(chance, 3, 4)):
                holds = all(moved_by_hand(chain, frame) == frame for frame in range(bottom_of(chain) + 1))
                self.assertIs(comes_back(chain), holds)
                found += holds and chain != ()
        self.assertGreater(found, 200)

    def test_least_kept(self):
        chance = chance_of(105)
        for _ in range(600):
            chain = some_chain(chance, 3, 5)
            bottom = bottom_of(chain)
            frames = [moved_by_hand(chain, frame) for frame in range(3 * bottom + 2)]
            kept = [many for many in range(1, bottom + 1)
                    if all(frames[k + many] > frames[k] for k in range(2 * bottom + 1))]
            self.assertEqual(least_kept(chain), kept[0])

    def test_moved_file(self):
        chance = chance_of(106)
        lost = 0
        for _ in range(500):
            chain = some_chain(chance, 3, 5)
            file = some_file(chance, 6, 12)
            cues = [(moved_by_hand(chain, start), moved_by_hand(chain, end), text) for start, end, text in file]
            found = moved_file(chain, file)
            self.assertEqual(found, tuple(cue for cue in cues if cue[0] != cue[1]))
            need_file(found)
            lost += len(found) < len(file)
            if all(end - start >= least_kept(chain) for start, end, _ in file):
                self.assertEqual(len(found), len(file))
        self.assertGreater(lost, 50)


class ByHand(Case):
    def test_periods(self):
        self.assertEqual(period(()), (1, 1))
        self.assertEqual(period(((1, 1, "up"),)), (1, 1))
        self.assertEqual(period(((2, 4, "near"),)), (2, 1))
        self.assertEqual(period(((3, 2, "down"),)), (2, 3))
        self.assertEqual(period(((6, 4, "near"), (2, 3, "near"))), (1, 1))
        self.assertEqual(period(((2, 1, "up"), (1, 2, "down"))), (1, 1))
        self.assertEqual(period(chain=((1, 2, "down"), (2, 1, "down"))), (2, 2))
        self.assertEqual(period(((2000, 1, "up"),) * 4), (1, 2000 ** 4))

    def test_apart(self):
        self.assertEqual(apart_chains(((1, 2, "down"),), ((1, 2, "up"),)), 1)
        self.assertIsNone(apart_chains(((1, 2, "near"),), ((1, 2, "up"),)))
        self.assertEqual(apart_chains(((1, 3, "near"),), ((1, 3, "down"),)), 2)
        self.assertEqual(apart_chains((), ((2, 1, "down"),)), 1)
        self.assertEqual(apart_chains(other=((6, 49, "up"),), one=((1, 7, "down"),)), 1)
        self.assertEqual(apart_chains(((1, 100, "down"),), ((2, 100, "down"),)), 50)
        self.assertEqual(apart_chains(((1, 100, "down"),), ((1, 101, "down"),)), 100)
        # The last frame that is looked at.
        self.assertEqual(apart_chains(((1999, 2000, "up"),), ()), 2000)
        self.assertEqual(apart_chains((), ((1, 2, "up"),)), 2)
        self.assertTrue(alike_chains((), ()))
        self.assertTrue(alike_chains(((1, 1, "up"), (1, 1, "down")), ()))
        self.assertTrue(alike_chains(one=((2, 4, "near"),), other=((1, 2, "near"),)))

    def test_comes_back(self):
        self.assertIs(comes_back(()), True)
        self.assertIs(comes_back(((2, 1, "down"), (1, 2, "down"))), True)
        self.assertIs(comes_back(((1, 2, "down"), (2, 1, "down"))), False)
        self.assertIs(comes_back(((25, 24, "near"), (24, 25, "near"))), True)
        self.assertIs(comes_back(((24, 25, "near"), (25, 24, "near"))), False)
        self.assertIs(comes_back(((2, 1, "down"),)), False)
        self.assertIs(comes_back(((1999, 2000, "up"),)), False)
        self.assertIs(comes_back(chain=((1, 1, "near"),)), True)

    def test_least_kept(self):
        self.assertEqual(least_kept(()), 1)
        self.assertEqual(least_kept(((5, 1, "down"),)), 1)
        for rounding in ROUNDINGS:
            self.assertEqual(least_kept(((1, 4, rounding),)), 4)
            self.assertEqual(least_kept(((2, 3, rounding),)), 2)
            self.assertEqual(least_kept(((1999, 2000, rounding),)), 2)
            self.assertEqual(least_kept(((1, 2000, rounding), (1, 50, rounding))), 100000)
        self.assertEqual(least_kept(chain=((1, 2, "down"), (2, 1, "down"))), 2)
        # Three thirds are in no whole frame at the very beginning, where the row of frames is shorter.
        self.assertEqual(least_kept(((1, 3, "near"),)), 3)
        self.assertEqual(least_kept(((1, 4, "near"), (1, 4, "near"))), 16)

    def test_moved_file(self):
        file = ((0, 1, A), (4, 6, B), (3, 9, A))
        self.assertEqual(moved_file(((1, 4, "down"),), file), ((0, 2, A),))
        self.assertEqual(moved_file(((1, 4, "up"),), file), ((0, 1, A), (1, 2, B), (1, 3, A)))
        self.assertEqual(moved_file((), file), file)
        self.assertEqual(moved_file(((3, 1, "up"),), ()), ())
        self.assertEqual(moved_file(chain=((2, 1, "up"),), file=file), ((0, 2, A), (8, 12, B), (6, 18, A)))

    def test_a_to_that_would_be_too_great(self):
        half = GREAT // 2
        self.assertEqual(moved_file(((2, 1, "up"),), ((half - 1, half, A),)), ((GREAT - 2, GREAT, A),))
        self.refused(TooGreat, "most", GREAT, moved_file, ((2, 1, "up"),), ((0, 1, A), (half, half + 1, A)))
        # Also of a cue that would be left out: both of its frames come to 10 ** 12 + 500.
        chain = ((1, 1000, "down"), (1001, 1, "up"))
        self.assertEqual(moved(chain, GREAT - 1), moved(chain, GREAT - 2))
        self.assertGreater(moved(chain, GREAT - 1), GREAT)
        self.refused(TooGreat, "most", GREAT, moved_file, chain, ((GREAT - 2, GREAT - 1, A),))
        self.refused(TooGreat, "most", GREAT, moved_file, ((2000, 1, "up"),) * 4, ((0, 1, A), (1, 2, A)))
        self.assertEqual(moved_file(((2000, 1, "up"),) * 3, ((0, 125, A),)), ((0, GREAT, A),))

    def test_more_than_100000_frames(self):
        one, other = ((1, 2000, "up"), (1, 50, "up")), ((1, 3, "up"),)
        for call in (alike_chains, apart_chains):
            self.refused(TooGreat, "most", 100000, call, one, other)
            self.refused(TooGreat, "most", 100000, call, other, one)
            self.refused(TooGreat, "most", 100000, call, ((1, 317, "up"),), ((1, 316, "up"),))
            call(one, ((1, 1000, "up"), (1, 100, "up")))
            call(((1, 313, "up"),), ((1, 317, "up"),))
            call(((1, 2000, "up"),), ((1, 2000, "up"), (3, 25, "near")))


class Greatest(Case):
    def test_four_steps_with_great_numbers(self):
        begun = time.monotonic()
        for chain in GREAT_CHAINS:
            many, rise = period(chain)
            top, bottom = slope(chain)
            self.assertEqual(many * top, rise * bottom)
            for frame in (0, 1, 12345, GREAT - many):
                self.assertEqual(moved(chain, frame + many) - moved(chain, frame), rise)
                self.assertEqual(moved(chain, frame), moved_by_hand(chain, frame))
            kept = least_kept(chain)
            for frame in range(2000):
                self.assertGreater(moved(chain, frame + kept), moved(chain, frame))
            self.assertFalse(comes_back(chain))
            self.assertTrue(alike_chains(chain, chain))
        self.assertEqual(period(GREAT_CHAINS[1]), (100000, 1))
        self.assertEqual(least_kept(GREAT_CHAINS[1]), 100000)
        self.assertLess(time.monotonic() - begun, 30)


class Refusals(Case):
    wrong = ((1, 1, "up"), (0, 1, "up"))

    def test_chains_come_first(self):
        for call in (slope, period, comes_back, least_kept):
            self.refused(BadChain, "number", 1, call, self.wrong)
            self.refused(BadChain, "number", None, call, list(self.wrong))
        for call in (moved, moved_file, alike_chains, apart_chains):
            self.refused(BadChain, "number", 1, call, self.wrong, None)
            self.refused(BadChain, "number", None, call, None, None)
        for call in (alike_chains, apart_chains):
            self.refused(BadChain, "number", 1, call, (), self.wrong)
            # Ahead of what would be too great.
            self.refused(BadChain, "number", 2, call, ((1, 2000, "up"), (1, 50, "up")),
                         ((1, 3, "up"), (1, 3, "up"), None))
        self.refused(BadFile, "number", 0, moved_file, (), ((1, 1, A),))
        self.refused(BadFile, "number", 1, moved_file, ((2, 1, "up"),), ((0, GREAT, A), (1, 1, A)))
        self.refused(BadFile, "number", None, moved_file, (), None)

    def test_frames(self):
        for frame in (-1, GREAT + 1, None, True, False, 0.0, "0", (0,), 10 ** 999):
            self.assertRaises(OutOfPlace, moved, (), frame)
        self.assertEqual(moved(chain=((2, 1, "up"),), frame=GREAT), 2 * GREAT)
