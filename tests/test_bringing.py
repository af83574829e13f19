"""[8]: the fewest cuts that bring others back, and the papers on them."""

import time
from itertools import combinations

from captionhouse.cuts import alike_cuts, behind, bringing, bringing_paper, check_bringing, need_cuts
from captionhouse.errors import BadCuts, BadPaper, Nothing, TooGreat
from tests.brute import chance_of
from tests.helpers import ODD_THINGS, Case, Equal
from tests.pictures import are_stops_by_hand, fewest_bringing_by_hand, frames_of, some_cuts

GREAT = 10 ** 12
BACKWARDS = tuple((59 - k, 60 - k) for k in range(60))


class AgainstAllCuts(Case):
    def look(self, cuts, wanted):
        """The least number by hand; the program finds it, and its paper holds by hand."""
        frames, asked = frames_of(cuts), frames_of(wanted)
        fewest = fewest_bringing_by_hand(frames, asked)
        found = bringing(cuts, wanted)
        if fewest is None:
            self.assertIsNone(found)
            self.assertRaises(Nothing, bringing_paper, cuts, wanted)
            self.bad_paper("cuts", check_bringing, cuts, wanted, (wanted, (0,) * len(wanted)))
            return None
        self.assertEqual(len(found), fewest)
        self.assertIs(need_cuts(found), found)
        self.assertEqual([frames[frame] for frame in frames_of(found)], asked)
        self.assertTrue(alike_cuts(behind(cuts, found), wanted))
        paper = bringing_paper(cuts, wanted)
        self.assertEqual([frames[frame] for frame in frames_of(paper[0])], asked)
        self.assertEqual(len(paper[0]), fewest)
        self.assertEqual(len(paper[1]), fewest)
        self.assertTrue(are_stops_by_hand(frames, asked, paper[1]))
        self.assertEqual(check_bringing(cuts, wanted, paper), fewest)
        return fewest

    def test_random_cuts(self):
        chance = chance_of(80)
        found = [self.look(some_cuts(chance, 5, 6), some_cuts(chance, 4, 6)) for _ in range(1500)]
        self.assertGreater(found.count(None), 100)
        self.assertGreater(len([fewest for fewest in found if fewest is not None and fewest > 2]), 100)

    def test_cuts_of_few_frames_each(self):
        chance = chance_of(81)
        found = []
        for _ in range(500):
            cuts = tuple((start, start + chance.randint(1, 2)) for start in chance.choices(range(4), k=7))
            found.append(self.look(cuts, some_cuts(chance, 4, 4)))
        self.assertGreater(len([fewest for fewest in found if fewest is not None and fewest > 3]), 100)

    def test_each_tuple_of_stops(self):
        """check_bringing takes a tuple of STOPS exactly if it is as told."""
        chance = chance_of(82)
        counted = [0, 0]
        while min(counted) < 40:
            cuts, wanted = some_cuts(chance, 4, 5), some_cuts(chance, 3, 5)
            found = bringing(cuts, wanted)
            if found is not None and len(found) < 4:
                frames, asked = frames_of(cuts), frames_of(wanted)
                for stops in combinations(range(len(asked) + 1), len(found)):
                    holds = are_stops_by_hand(frames, asked, stops)
                    counted[holds] += 1
                    if holds:
                        self.assertEqual(check_bringing(cuts, wanted, (found, stops)), len(found))
                    else:
                        self.bad_paper("stops", check_bringing, cuts, wanted, (found, stops))

    def test_each_pair_of_stretches(self):
        """check_bringing takes CUTS exactly if they bring back."""
        cuts = ((3, 6), (0, 4), (4, 6))
        wanted = ((0, 6),)
        frames = frames_of(cuts)
        paper = bringing_paper(cuts, wanted)
        self.assertEqual(len(paper[0]), 1)
        wanted = ((3, 5), (0, 2))
        stops = bringing_paper(cuts, wanted)[1]
        self.assertEqual(len(stops), 2)
        stretches = [(start, end) for start in range(10) for end in range(start + 1, 11)]
        held = 0
        for one in stretches:
            for other in stretches:
                told = (one, other)
                holds = max(one[1], other[1]) <= 9 and [frames[k] for k in frames_of(told)] == frames_of(wanted)
                held += holds
                if holds:
                    self.assertEqual(check_bringing(cuts, wanted, (told, stops)), 2)
                else:
                    self.bad_paper("cuts", check_bringing, cuts, wanted, (told, stops))
        self.assertGreater(held, 1)


class ByHand(Case):
    cuts = ((5, 8), (0, 2), (1, 4))
    wanted = ((0, 4), (6, 8))

    def test_as_long_as_can_be(self):
        self.assertEqual(bringing(self.cuts, self.wanted), ((3, 5), (6, 8), (1, 3)))
        self.assertEqual(bringing_paper(self.cuts, self.wanted), (((3, 5), (6, 8), (1, 3)), (0, 2, 4)))
        self.assertEqual(check_bringing(self.cuts, self.wanted, (((3, 4), (5, 8), (1, 3)), (0, 2, 4))), 3)

    def test_what_is_no_source_cannot_be_brought_back(self):
        for wanted in (((4, 5),), ((0, 5),), ((0, 1), (7, 9)), ((3, 6),)):
            self.assertIsNone(bringing(self.cuts, wanted))
            self.assertRaises(Nothing, bringing_paper, self.cuts, wanted)
        self.assertIsNone(bringing((), ((0, 1),)))
        self.assertEqual(bringing(((0, 1),), ((0, 1),) * 3), ((0, 1),) * 3)

    def test_nothing_wanted(self):
        for cuts in ((), self.cuts):
            self.assertEqual(bringing(cuts, ()), ())
            self.assertEqual(bringing_paper(cuts, ()), ((), ()))
            self.assertEqual(check_bringing(cuts, (), ((), ())), 0)
            self.bad_paper("stops", check_bringing, cuts, (), ((), (0,)))
            self.bad_paper("stops", check_bringing, cuts, (), ((), None))
            self.bad_paper("cuts", check_bringing, cuts, (), (((0, 1),), (0,)))

    def test_a_stretch_goes_over_a_cut(self):
        self.assertEqual(bringing(((0, 3), (7, 9)), ((2, 3), (7, 8))), ((2, 4),))
        self.assertEqual(bringing(((0, 3), (3, 9)), ((2, 5),)), ((2, 5),))
        self.assertEqual(bringing(((0, 3),), ((0, 1), (1, 2), (2, 3))), ((0, 3),))
        self.assertEqual(len(bringing(((0, 3), (7, 9)), ((2, 3), (8, 9)))), 2)
        self.assertEqual(bringing(((0, 2), (5, 7), (0, 2), (5, 6), (9, 10)), ((0, 2), (5, 6), (9, 10))), ((4, 8),))

    def test_frames_far_off(self):
        cuts = ((GREAT // 2, GREAT), (0, GREAT // 2))
        self.assertEqual(bringing(cuts, ((0, GREAT),)), ((GREAT // 2, GREAT), (0, GREAT // 2)))
        paper = bringing_paper(cuts, ((0, GREAT),))
        self.assertEqual(paper[1], (0, GREAT // 2))
        self.assertEqual(check_bringing(cuts, ((0, GREAT),), paper), 2)
        self.bad_paper("stops", check_bringing, cuts, ((0, GREAT),), (paper[0], (0, GREAT // 2 - 1)))
        self.assertEqual(check_bringing(cuts, ((0, GREAT),), (paper[0], (0, GREAT - 1))), 2)
        self.bad_paper("stops", check_bringing, cuts, ((0, GREAT),), (paper[0], (0, GREAT)))

    def test_more_than_sixty_stretches(self):
        wanted = ((0, 60),)
        found = bringing(BACKWARDS, wanted)
        self.assertEqual(len(found), 60)
        self.assertEqual(check_bringing(BACKWARDS, wanted, bringing_paper(BACKWARDS, wanted)), 60)
        more = ((0, 60), (3, 4))
        for call in (bringing, bringing_paper):
            self.refused(TooGreat, "most", 60, call, BACKWARDS, more)
            self.refused(TooGreat, "most", 60, call, BACKWARDS, ((0, 60),) * 60)
        # Without any there are not too many, however far off the frame that is missing.
        self.assertIsNone(bringing(BACKWARDS, ((0, 60), (3, 4), (60, 61))))
        self.assertRaises(Nothing, bringing_paper, BACKWARDS, ((0, 60),) * 59 + ((0, 61),))
        # No CUTS bring back what wants more than sixty stretches.
        self.bad_paper("cuts", check_bringing, BACKWARDS, more, (found, tuple(range(60))))
        self.bad_paper("cuts", check_bringing, BACKWARDS, more, (found + ((56, 57),), tuple(range(61))))

    def test_sixty_stretches(self):
        begun = time.monotonic()
        cuts = tuple((k, 2000 - k) for k in range(60))
        wanted = tuple((59 - k, 1941 + k) for k in range(60))
        paper = bringing_paper(cuts, wanted)
        self.assertEqual(check_bringing(cuts, wanted, paper), 60)
        wanted = cuts[::-1]
        self.assertEqual(len(bringing(cuts, wanted)), 60)
        self.assertEqual(bringing(cuts, cuts), ((0, sum(end - start for start, end in cuts)),))
        again = ((0, 10 ** 9), (5, 6)) * 30
        self.assertEqual(len(bringing(again, again)), 1)
        self.assertEqual(len(bringing(again, again[::-1])), 2)
        self.assertLess(time.monotonic() - begun, 20)


class Papers(Case):
    cuts = ((5, 8), (0, 2), (1, 4))
    wanted = ((0, 4), (6, 8))
    found = ((3, 5), (6, 8), (1, 3))
    stops = (0, 2, 4)

    def bad(self, part, paper):
        self.bad_paper(part, check_bringing, self.cuts, self.wanted, paper)

    def test_forms(self):
        for paper in (*ODD_THINGS, (), (self.found,), (self.found, self.stops, ()), [self.found, self.stops],
                      (self.found, self.stops, self.stops)):
            self.bad("form", paper)

    def test_cuts(self):
        for found in (*ODD_THINGS, (), self.found[:2], self.found + ((0, 1),), list(self.found), self.found[::-1],
                      ((3, 5), (6, 8), (1, 1)), ((3, 5), (6, 8), (1, 9)), ((3, 5), (6, 8), (2, 3)), ((0, GREAT),) * 2,
                      ((3, 5), (6, 8), None), ((3, 5), (6, 8), (True, 3)), ((3, 5), (6, 8), (1, 3.0))):
            self.bad("cuts", (found, self.stops))
            self.bad("cuts", (found, None))

    def test_one_stretch_more(self):
        # They bring back, too, but no stops are as many.
        more = ((3, 4), (4, 5), (6, 8), (1, 3))
        for stops in (self.stops, (0, 1, 2, 4), (0, 2, 3, 4), (0, 2, 4, 5)):
            self.bad("stops", (more, stops))

    def test_stops(self):
        for stops in (*ODD_THINGS, (), (0,), (0, 2), (0, 2, 4, 5), [0, 2, 4], (1, 2, 4), (-1, 2, 4), (0, 1, 4),
                      (0, 2, 3), (0, 4, 2), (0, 2, 2), (0, 0, 4), (0, 2, 6), (0, 2, 10 ** 999), (0, 10 ** 999, 4),
                      (0, 10 ** 998, 10 ** 999), (0, -10 ** 999, 4), (False, 2, 4), (0, 2.0, 4), (0, "2", 4),
                      (0, None, 4), (0, 2, 4.0), (None, 2, 4), (0, Equal(), 4), (0, 10 ** 999, 10 ** 998, 4)):
            self.bad("stops", (self.found, stops))

    def test_stops_that_are_greater_hold_too(self):
        self.assertEqual(check_bringing(self.cuts, self.wanted, (self.found, (0, 2, 5))), 3)
        self.assertEqual(check_bringing(self.cuts, self.wanted, (self.found, (0, 3, 5))), 3)
        self.assertEqual(check_bringing(self.cuts, self.wanted, (self.found, (0, 3, 4))), 3)
        self.assertEqual(check_bringing(cuts=self.cuts, wanted=self.wanted, paper=(self.found, self.stops)), 3)

    def test_the_first_argument_comes_first(self):
        wrong = ((0, 1), (1, 1))
        for call, rest in ((bringing, ()), (bringing_paper, ()), (check_bringing, (None,))):
            self.refused(BadCuts, "number", 1, call, wrong, None, *rest)
            self.refused(BadCuts, "number", None, call, [], None, *rest)
            self.refused(BadCuts, "number", 1, call, (), wrong, *rest)
            self.refused(BadCuts, "number", None, call, (), None, *rest)
        self.bad_paper("form", check_bringing, (), ((0, 1),), None)
        self.bad_paper("cuts", check_bringing, (), ((0, 1),), ((), ()))

    def test_equal_calls(self):
        chance = chance_of(83)
        for _ in range(50):
            cuts, wanted = some_cuts(chance, 4, 5), some_cuts(chance, 3, 5)
            self.assertEqual(bringing(cuts, wanted), bringing(wanted=wanted, cuts=cuts))
            if bringing(cuts, wanted) is not None:
                self.assertEqual(bringing_paper(cuts, wanted), bringing_paper(wanted=wanted, cuts=cuts))
        self.assertRaises(BadPaper, check_bringing, (), (), None)
