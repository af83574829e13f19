"""[7]: cut lists, their sources, cuts behind cuts, files carried by cuts, frames shown twice and lost."""

import time

from captionhouse.cuts import (alike_cuts, behind, carried, length, lost, need_cuts, plain, source, twice)
from captionhouse.errors import BadCuts, BadFile, Nothing, OutOfPlace, TooGreat
from captionhouse.files import is_flat, seen
from tests.brute import chance_of, flat_by_hand, picture_by_hand, some_file
from tests.helpers import ODD_THINGS, Case
from tests.pictures import frames_of, some_cuts, stretches_of

A, B, C = ("a",), ("b",), ("c",)
GREAT = 10 ** 12
BACKWARDS = tuple((59 - k, 60 - k) for k in range(60))


class NeedCuts(Case):
    def wrong(self, number, thing):
        self.refused(BadCuts, "number", number, need_cuts, thing)

    def test_it_gives_the_very_thing(self):
        for cuts in ((), ((0, 1),), ((0, GREAT),), ((GREAT - 1, GREAT),), ((5, 9), (0, 7), (5, 9)), ((0, 1),) * 60,
                     BACKWARDS, ((0, 3), (3, 5))):
            self.assertIs(need_cuts(cuts), cuts)
            self.assertIs(need_cuts(thing=cuts), cuts)

    def test_no_tuple_of_at_most_sixty_things(self):
        for thing in [((0, 1),) * 61, [(0, 1)], None, "a", 0, {}, True, b"", iter(())]:
            self.wrong(None, thing)
        self.wrong(None, (None,) * 61)
        self.wrong(0, (None,) * 60)

    def test_wrong_stretches_have_their_numbers(self):
        wrong = [None, 3, "ab", (0,), (0, 1, 2), [0, 1], (), (-1, 1), (1, 1), (2, 1), (0, 0), (0, GREAT + 1),
                 (GREAT, GREAT), (GREAT, GREAT + 1), (None, 1), (0, None), (False, 1), (0, True), (0.0, 1), (0, 1.0),
                 ("0", 1), (0, 10 ** 999), (-10 ** 999, 1), ((0, 1), 2)]
        for thing in wrong:
            self.wrong(0, (thing,))
            self.wrong(1, ((4, 5), thing, None))
            self.wrong(59, ((4, 5),) * 59 + (thing,))

    def test_all_together_no_longer_than_a_picture(self):
        half = GREAT // 2
        for cuts in (((0, half), (half, GREAT)), ((0, half), (0, half)), ((0, GREAT - 1), (7, 8)),
                     ((0, GREAT - 59),) + ((3, 4),) * 59):
            self.assertIs(need_cuts(cuts), cuts)
            self.assertEqual(length(cuts), GREAT)
        self.wrong(1, ((0, GREAT), (0, 1)))
        self.wrong(1, ((0, GREAT), (0, 1), None))
        self.wrong(2, ((0, half), (0, half), (3, 4), (3, 4)))
        self.wrong(59, ((0, GREAT - 58),) + ((3, 4),) * 59)
        self.wrong(1, ((0, half), (0, half + 1)))
        # A stretch that is wrong by itself, ahead of all being too long.
        self.wrong(0, ((1, 1), (0, GREAT), (0, 1)))

    def test_all_odd_things(self):
        for thing in ODD_THINGS:
            self.assertRaises(BadCuts, need_cuts, thing)
            self.assertRaises(BadCuts, need_cuts, (thing,))
            if isinstance(thing, bool) or thing not in (0, 1):
                self.assertRaises(BadCuts, need_cuts, ((0, thing),))
                self.assertRaises(BadCuts, need_cuts, ((thing, 10 ** 11),))


class AgainstAllNewFrames(Case):
    def test_random_cuts(self):
        chance = chance_of(70)
        some_twice = some_lost = 0
        for _ in range(500):
            cuts = some_cuts(chance, 5, 8)
            frames = frames_of(cuts)
            self.assertEqual(length(cuts), len(frames))
            self.assertEqual([source(cuts, frame) for frame in range(len(frames))], frames)
            for frame in (len(frames), len(frames) + 1, GREAT):
                self.assertRaises(Nothing, source, cuts, frame)
            self.assertEqual(plain(cuts), stretches_of(frames))
            repeated = [frame for frame in range(9) if frames.count(frame) > 1]
            self.assertEqual(twice(cuts), stretches_of(repeated))
            some_twice += bool(repeated)
            for end in range(11):
                left = [frame for frame in range(end) if frame not in frames]
                self.assertEqual(lost(cuts, end), stretches_of(left))
                some_lost += bool(left)
        self.assertGreater(some_twice, 200)
        self.assertGreater(some_lost, 1000)

    def test_alike(self):
        chance = chance_of(71)
        same = 0
        for _ in range(2000):
            one, other = some_cuts(chance, 3, 3), some_cuts(chance, 3, 3)
            self.assertIs(alike_cuts(one, other), frames_of(one) == frames_of(other))
            self.assertTrue(alike_cuts(one, plain(one)))
            same += one != other and frames_of(one) == frames_of(other)
        self.assertGreater(same, 5)

    def test_behind(self):
        chance = chance_of(72)
        done = 0
        for _ in range(2000):
            first, second = some_cuts(chance, 4, 8), some_cuts(chance, 4, 8)
            frames = frames_of(first)
            if all(end <= len(frames) for _, end in second):
                self.assertEqual(behind(first, second), stretches_of([frames[frame] for frame in frames_of(second)]))
                done += len(second) > 1
            else:
                self.assertRaises(OutOfPlace, behind, first, second)
        self.assertGreater(done, 300)

    def test_carried(self):
        chance = chance_of(73)
        for number in range(800):
            cuts = some_cuts(chance, 4, 8)
            file = some_file(chance, 5, 8, "ab" if number % 2 else "abc")
            picture = picture_by_hand(file, 9)
            new = [picture[frame] for frame in frames_of(cuts)]
            found = carried(cuts, file)
            self.assertEqual(found, flat_by_hand(new))
            self.assertTrue(is_flat(found))

    def test_carried_by_one_then_the_other_is_carried_by_both(self):
        chance = chance_of(74)
        done = 0
        while done < 300:
            first, second = some_cuts(chance, 3, 8), some_cuts(chance, 3, 6)
            if all(end <= length(first) for _, end in second):
                file = some_file(chance, 5, 8)
                self.assertEqual(carried(second, carried(first, file)), carried(behind(first, second), file))
                done += 1

    def test_behind_one_then_another_is_behind_both(self):
        chance = chance_of(75)
        done = 0
        while done < 300:
            one, two, three = [some_cuts(chance, 3, 6) for _ in range(3)]
            if all(end <= length(one) for _, end in two) and all(end <= length(two) for _, end in three):
                self.assertEqual(behind(behind(one, two), three), behind(one, behind(two, three)))
                done += 1


class ByHand(Case):
    def test_stretches_in_any_order(self):
        cuts = ((5, 8), (0, 2), (1, 3), (3, 4))
        self.assertEqual(length(cuts), 8)
        self.assertEqual([source(cuts, frame) for frame in range(8)], [5, 6, 7, 0, 1, 1, 2, 3])
        self.assertEqual(plain(cuts), ((5, 8), (0, 2), (1, 4)))
        self.assertEqual(twice(cuts), ((1, 2),))
        self.assertEqual(lost(cuts, 10), ((4, 5), (8, 10)))

    def test_only_what_begins_where_the_one_ahead_ends_is_joined(self):
        self.assertEqual(plain(((0, 2), (2, 4), (4, 5))), ((0, 5),))
        self.assertEqual(plain(((2, 4), (0, 2))), ((2, 4), (0, 2)))
        self.assertEqual(plain(((0, 2), (3, 4))), ((0, 2), (3, 4)))
        self.assertEqual(plain(((0, 3), (2, 4))), ((0, 3), (2, 4)))
        self.assertEqual(plain(((0, 2), (0, 2))), ((0, 2), (0, 2)))

    def test_twice_is_of_the_longest_stretches(self):
        self.assertEqual(twice(((0, 4), (0, 2), (2, 4))), ((0, 4),))
        self.assertEqual(twice(((0, 9), (1, 3), (2, 5), (7, 9))), ((1, 5), (7, 9)))
        self.assertEqual(twice(((0, 3), (0, 3), (0, 3))), ((0, 3),))
        self.assertEqual(twice(((0, 3), (3, 5))), ())
        self.assertEqual(twice(()), ())

    def test_lost_up_to_its_end(self):
        cuts = ((2, 4), (6, 8))
        told = {0: (), 1: ((0, 1),), 2: ((0, 2),), 3: ((0, 2),), 4: ((0, 2),), 5: ((0, 2), (4, 5)),
                6: ((0, 2), (4, 6)), 7: ((0, 2), (4, 6)), 8: ((0, 2), (4, 6)), 9: ((0, 2), (4, 6), (8, 9))}
        for end, stretches in told.items():
            self.assertEqual(lost(cuts, end), stretches)
        self.assertEqual(lost(cuts, GREAT), ((0, 2), (4, 6), (8, GREAT)))
        self.assertEqual(lost((), 0), ())
        self.assertEqual(lost((), 3), ((0, 3),))
        self.assertEqual(lost(((0, 9),), 3), ())
        self.assertEqual(lost(cuts=((1, 9),), end=3), ((0, 1),))

    def test_carried_cues_are_cut_shown_twice_and_brought_together(self):
        file = ((0, 4, A), (6, 9, A), (9, 12, B))
        self.assertEqual(carried(((2, 7),), file), ((0, 2, A), (4, 5, A)))
        self.assertEqual(carried(((0, 2), (0, 2)), file), ((0, 4, A),))
        self.assertEqual(carried(((1, 3), (4, 6), (1, 3)), file), ((0, 2, A), (4, 6, A)))
        self.assertEqual(carried(((2, 4), (6, 8)), file), ((0, 4, A),))
        self.assertEqual(carried(((8, 10), (3, 4)), file), ((0, 1, A), (1, 2, B), (2, 3, A)))
        self.assertEqual(carried(((4, 6),), file), ())
        self.assertEqual(carried((), file), ())
        self.assertEqual(carried(((0, 100),), ()), ())
        # Of what stands under another cue nothing is carried.
        self.assertEqual(carried(((2, 3),), ((0, 9, A), (1, 4, B))), ((0, 1, B),))
        self.assertEqual(carried(cuts=((3, 12),), file=file), ((0, 1, A), (3, 6, A), (6, 9, B)))

    def test_behind_at_the_end_and_beyond(self):
        first = ((10, 15), (0, 3))
        self.assertEqual(behind(first, ((0, 8),)), first)
        self.assertEqual(behind(first, ((7, 8), (4, 6))), ((2, 3), (14, 15), (0, 1)))
        self.out_of_place(behind, first, ((0, 9),))
        self.out_of_place(behind, first, ((0, 1), (8, 9)))
        self.out_of_place(behind, (), ((0, 1),))
        self.assertEqual(behind(first, ()), ())
        self.assertEqual(behind((), ()), ())
        self.assertEqual(behind(second=((1, 2),), first=((4, 6),)), ((5, 6),))
        self.assertEqual(behind(((0, 3), (3, 6)), ((0, 6),)), ((0, 6),))

    def test_more_than_sixty_stretches(self):
        whole = ((0, 60),)
        self.assertEqual(behind(BACKWARDS, whole), BACKWARDS)
        self.refused(TooGreat, "most", 60, behind, BACKWARDS, ((0, 60), (3, 4)))
        self.refused(TooGreat, "most", 60, behind, BACKWARDS, ((0, 60),) * 60)
        # Sixty-one parts, two of which are one.
        self.assertEqual(len(behind(BACKWARDS, ((0, 59), (58, 59), (57, 58)))), 60)
        self.refused(TooGreat, "most", 60, behind, BACKWARDS, ((0, 59), (56, 57), (30, 31)))
        # What ends beyond LENGTH comes first.
        self.out_of_place(behind, BACKWARDS, ((0, 60), (3, 4), (60, 61)))


class FarOff(Case):
    def test_frames_far_off(self):
        cuts = ((GREAT - 2, GREAT), (0, GREAT - 3), (GREAT - 1, GREAT))
        self.assertEqual(length(cuts), GREAT)
        self.assertEqual(source(cuts, GREAT - 1), GREAT - 1)
        self.assertEqual(source(cuts, GREAT - 2), GREAT - 4)
        self.assertEqual(source(cuts, 1), GREAT - 1)
        self.assertRaises(Nothing, source, cuts, GREAT)
        self.assertEqual(twice(cuts), ((GREAT - 1, GREAT),))
        self.assertEqual(lost(cuts, GREAT), ((GREAT - 3, GREAT - 2),))
        self.assertEqual(lost(cuts, GREAT - 2), ((GREAT - 3, GREAT - 2),))
        self.assertEqual(lost(cuts, GREAT - 3), ())
        self.assertEqual(behind(cuts, ((0, 5), (GREAT - 1, GREAT))), ((GREAT - 2, GREAT), (0, 3), (GREAT - 1, GREAT)))
        self.assertEqual(carried(cuts, ((GREAT - 1, GREAT, A), (0, 1, B))),
                         ((1, 2, A), (2, 3, B), (GREAT - 1, GREAT, A)))

    def test_sixty_stretches_and_sixty_cues(self):
        begun = time.monotonic()
        nested = tuple((k, 1000 - k, (str(k),)) for k in range(60))
        cuts = tuple((k, 1000 - 2 * k) for k in range(60))
        found = carried(cuts, nested)
        self.assertGreater(len(found), 2500)
        for frame in range(0, length(cuts), 501):
            self.assertEqual([cue[2] for cue in found if cue[0] <= frame < cue[1]], [seen(nested, source(cuts, frame))])
        self.assertEqual(plain(twice(cuts)), ((1, 998),))
        self.assertTrue(alike_cuts(cuts, plain(cuts)))
        self.assertLess(time.monotonic() - begun, 20)


class Refusals(Case):
    wrong = ((0, 1), (1, 1))

    def test_frames(self):
        for frame in (-1, GREAT + 1, None, True, False, 0.0, "0", (0,), [0], 10 ** 999):
            self.out_of_place(source, ((0, 1),), frame)
            self.out_of_place(lost, ((0, 1),), frame)
        self.assertEqual(source(cuts=((3, 4),), frame=0), 3)
        self.assertRaises(Nothing, source, (), 0)
        # An error about the frame, not a bare KeyError or IndexError.
        with self.assertRaises(LookupError) as caught:
            source((), 0)
        self.assertIs(caught.exception.__class__, Nothing)

    def test_cuts_come_first(self):
        for call in (length, plain, twice):
            self.refused(BadCuts, "number", 1, call, self.wrong)
            self.refused(BadCuts, "number", None, call, [(0, 1)])
        for call in (source, lost, carried, behind, alike_cuts):
            self.refused(BadCuts, "number", 1, call, self.wrong, None)
            self.refused(BadCuts, "number", None, call, None, None)
        for call in (behind, alike_cuts):
            self.refused(BadCuts, "number", 1, call, (), self.wrong)
            self.refused(BadCuts, "number", None, call, (), ((0, 1),) * 61)
        self.refused(BadFile, "number", 0, carried, (), ((1, 1, A),))
        self.refused(BadFile, "number", None, carried, (), None)
        self.assertTrue(alike_cuts(one=(), other=()))

    def test_by_name(self):
        self.assertEqual(length(cuts=((3, 4),)), 1)
        self.assertEqual(plain(cuts=((3, 4), (4, 6))), ((3, 6),))
        self.assertEqual(twice(cuts=((3, 4), (3, 6))), ((3, 4),))
