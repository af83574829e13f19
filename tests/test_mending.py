"""[9]: flat files that are mended, the bars that keep them from being, and the papers on them."""

import time
from itertools import product

from captionhouse.errors import OutOfPlace
from captionhouse.files import is_flat, need_file
from captionhouse.mending import check_mending, mended, mending_paper
from tests.brute import chance_of, flat_by_hand, picture_by_hand, some_file
from tests.helpers import ODD_THINGS, Case, Equal
from tests.pictures import all_mended_by_hand, is_bar_by_hand, is_mended_by_hand

A, B, C = ("a",), ("b",), ("c",)
GREAT = 10 ** 12
MOST = 10 ** 9


def some_flat(chance, frames=7):
    return flat_by_hand(picture_by_hand(some_file(chance, 4, frames), frames + 1))


def to_the_left(files):
    """Of some FILES the one with each TO least, then each FROM greatest; it must be one of them."""
    least = [min(cue[1] for cue in cues) for cues in zip(*files)]
    files = [file for file in files if [cue[1] for cue in file] == least]
    greatest = [max(cue[0] for cue in cues) for cues in zip(*files)]
    found = [file for file in files if [cue[0] for cue in file] == greatest]
    assert len(found) == 1
    return found[0]


class AgainstAllFiles(Case):
    def test_random_files(self):
        chance = chance_of(90)
        counted = {"mended": 0, "bar": 0}
        for _ in range(1500):
            file = some_flat(chance)
            while len(file) > 3:
                file = some_flat(chance)
            end, least, gap = chance.randint(0, 9), chance.randint(1, 4), chance.randint(0, 2)
            files = all_mended_by_hand(file, end, least, gap)
            bars = [(low, high) for low in range(5) for high in range(5)
                    if is_bar_by_hand(file, end, least, gap, low, high)]
            self.assertNotEqual(bool(files), bool(bars))
            paper = mending_paper(file, end, least, gap)
            if files:
                self.assertEqual(mended(file, end, least, gap), to_the_left(files))
                self.assertEqual(paper[0], "mended")
                self.assertIn(paper[1], files)
            else:
                self.assertIsNone(mended(file, end, least, gap))
                self.assertEqual(paper[0], "bar")
                self.assertIn(paper[1:], bars)
            self.assertEqual(check_mending(file, end, least, gap, paper), paper[0])
            counted[paper[0]] += 1
        self.assertGreater(min(counted.values()), 200)

    def test_each_paper(self):
        """check_mending takes a paper exactly if it is as told."""
        chance = chance_of(91)
        counted = {("mended", True): 0, ("mended", False): 0, ("bar", True): 0, ("bar", False): 0}
        while min(counted.values()) < 60:
            file = some_flat(chance, 5)
            if len(file) == 2:
                end, least, gap = chance.randint(0, 7), chance.randint(1, 3), chance.randint(0, 2)
                told = (file, end, least, gap)
                spans = [(start, stop) for start in range(4) for stop in range(start + 1, 8)]
                for one, other in product(chance.sample(spans, 12), chance.sample(spans, 12)):
                    cues = ((*one, file[0][2]), (*other, file[1][2]))
                    self.compare(counted, told, ("mended", cues), is_mended_by_hand(*told, cues))
                for low, high in product(range(-1, 5), range(-1, 5)):
                    self.compare(counted, told, ("bar", low, high), is_bar_by_hand(*told, low, high))

    def compare(self, counted, told, paper, holds):
        counted[paper[0], holds] += 1
        if holds:
            self.assertEqual(check_mending(*told, paper), paper[0])
        else:
            self.bad_paper(paper[0], check_mending, *told, paper)


class ByHand(Case):
    file = ((2, 3, A), (5, 6, B), (9, 12, A))

    def test_each_to_least_then_each_from_greatest(self):
        self.assertEqual(mended(self.file, 12, 1, 0), self.file)
        self.assertEqual(mended(self.file, 12, 2, 0), ((1, 3, A), (4, 6, B), (9, 12, A)))
        self.assertEqual(mended(self.file, 12, 3, 0), ((0, 3, A), (3, 6, B), (9, 12, A)))
        self.assertEqual(mended(self.file, 12, 4, 0), ((0, 4, A), (4, 8, B), (8, 12, A)))
        self.assertEqual(mended(self.file, 12, 3, 1), ((0, 3, A), (4, 7, B), (9, 12, A)))
        self.assertIsNone(mended(file=self.file, end=13, least=3, gap=2))

    def test_bounds_just_kept_and_just_not(self):
        # The end of the picture.
        self.assertEqual(mended(((2, 5, A),), 5, 5, 0), ((0, 5, A),))
        self.assertEqual(mended(((2, 5, A),), 6, 6, 9), ((0, 6, A),))
        self.assertIsNone(mended(((2, 5, A),), 5, 6, 0))
        self.assertEqual(mending_paper(((2, 5, A),), 5, 6, 0), ("bar", 0, 1))
        self.assertIsNone(mended(((2, 5, A),), 4, 1, 0))
        self.assertEqual(mending_paper(((2, 5, A),), 4, 1, 0), ("bar", 1, 1))
        # FROM of a cue behind another one.
        two = ((2, 3, A), (6, 7, B))
        self.assertEqual(mended(two, 100, 6, 0), ((0, 6, A), (6, 12, B)))
        self.assertIsNone(mended(two, 100, 7, 0))
        self.assertEqual(mending_paper(two, 100, 7, 0), ("bar", 0, 1))
        self.assertEqual(mended(two, 100, 1, 3), two)
        self.assertIsNone(mended(two, 100, 1, 4))
        self.assertEqual(mending_paper(two, 100, 1, 4), ("bar", 1, 1))
        self.assertEqual(mended(two, 100, 4, 2), ((0, 4, A), (6, 10, B)))
        self.assertIsNone(mended(two, 100, 4, 3))
        self.assertEqual(mended(two, 10, 4, 2), ((0, 4, A), (6, 10, B)))
        self.assertIsNone(mended(two, 9, 4, 2))

    def test_one_paper_comes_and_the_other_one_does_not(self):
        two = ((2, 3, A), (6, 7, B))
        for end, least, gap in ((10, 4, 2), (9, 4, 2), (100, 7, 0), (100, 1, 4), (100, 1, 3), (6, 1, 0), (7, 1, 0)):
            word = mending_paper(two, end, least, gap)[0]
            self.assertEqual(word, "bar" if mended(two, end, least, gap) is None else "mended")
            if word == "mended":
                for low in range(-1, 4):
                    for high in range(-1, 4):
                        self.bad_paper("bar", check_mending, two, end, least, gap, ("bar", low, high))
            else:
                self.bad_paper("mended", check_mending, two, end, least, gap, ("mended", two))
                self.bad_paper("mended", check_mending, two, end, least, gap, ("mended", ((0, 4, A), (6, 10, B))))

    def test_without_cues(self):
        for end in (0, 5, GREAT):
            self.assertEqual(mended((), end, MOST, MOST), ())
            self.assertEqual(mending_paper((), end, MOST, MOST), ("mended", ()))
            self.assertEqual(check_mending((), end, 1, 0, ("mended", ())), "mended")
            self.bad_paper("bar", check_mending, (), end, 1, 0, ("bar", 0, 0))
            self.bad_paper("mended", check_mending, (), end, 1, 0, ("mended", self.file))

    def test_a_mended_file_may_have_cues_that_touch_and_are_the_same(self):
        self.assertEqual(mended(((0, 2, A), (3, 4, A)), 9, 3, 0), ((0, 3, A), (3, 6, A)))
        self.assertEqual(check_mending(((0, 2, A), (3, 4, A)), 9, 3, 0, ("mended", ((0, 3, A), (3, 6, A)))), "mended")

    def test_frames_far_off(self):
        file = ((0, 1, A), (GREAT - 1, GREAT, B))
        self.assertEqual(mended(file, GREAT, MOST, MOST), ((0, MOST, A), (GREAT - MOST, GREAT, B)))
        self.assertIsNone(mended(file, GREAT - 1, 1, 0))
        self.assertEqual(mending_paper(file, GREAT - 1, 1, 0), ("bar", 2, 2))
        late = ((MOST, MOST + 1, A), (MOST + 2, MOST + 3, B), (GREAT - 1, GREAT, C))
        self.assertIsNone(mended(late, GREAT, MOST, MOST))
        self.assertEqual(mended(late, GREAT, 1000, 1)[0], (MOST - 999, MOST + 1, A))

    def test_119_cues(self):
        begun = time.monotonic()
        file = tuple((10 * k, 10 * k + 3, A) for k in range(119))
        self.assertEqual(mended(file, 1190, 9, 1)[-1], (1180, 1189, A))
        self.assertEqual(mended(file, 1189, 9, 1), tuple((10 * k, 10 * k + 9, A) for k in range(119)))
        self.assertEqual(mending_paper(file, 1188, 9, 1)[0], "bar")
        self.assertEqual(mending_paper(file, 1189, 10, 1)[0], "bar")
        for end, least, gap in ((1189, 9, 1), (1188, 9, 1), (5000, 10, 1), (1188, 1, 0), (5, 5, 5)):
            paper = mending_paper(file, end, least, gap)
            self.assertEqual(check_mending(file, end, least, gap, paper), paper[0])
        more = file + ((1190, 1193, A),)
        for call in (mended, mending_paper):
            self.out_of_place(call, more, 2000, 1, 0)
        self.out_of_place(check_mending, more, 2000, 1, 0, ("mended", more))
        self.assertLess(time.monotonic() - begun, 20)


class Papers(Case):
    file = ((2, 3, A), (5, 6, B), (9, 12, A))
    told = (file, 12, 3, 1)
    found = ((0, 3, A), (4, 7, B), (9, 12, A))

    def bad(self, part, *paper):
        self.bad_paper(part, check_mending, *self.told, paper)

    def test_forms(self):
        for paper in (*ODD_THINGS, (), ("mended",), ("bar",), ["mended", self.found], ("bars", 0, 1), (None, 0, 1),
                      ("mended", self.found, 0), ("mended", 0, 1), ("bar", 0), ("bar", 0, 1, 2), ("bar", (0, 1)),
                      (Equal(), self.found), (Equal(), 0, 1), ("Mended", self.found), (b"bar", 0, 1), ("", self.found),
                      (self.found, "mended"), (("mended",), self.found), (["bar"], 0, 1)):
            self.bad_paper("form", check_mending, *self.told, paper)

    def test_mended(self):
        self.assertEqual(check_mending(*self.told, ("mended", self.found)), "mended")
        bent = [self.found[:2], self.found + ((20, 25, A),), list(self.found), (), None,
                ((0, 3, B),) + self.found[1:], ((0, 3, ("a", "a")),) + self.found[1:],
                ((0, 2, A),) + self.found[1:], ((1, 3, A),) + self.found[1:], ((-1, 3, A),) + self.found[1:],
                ((0, 4, A),) + self.found[1:], self.found[:1] + ((3, 7, B),) + self.found[2:],
                self.found[:1] + ((4, 9, B),) + self.found[2:], self.found[:1] + ((4, 6, B),) + self.found[2:],
                self.found[:2] + ((9, 13, A),), self.found[:2] + ((9, 11, A),), self.found[:2] + ((10, 13, A),),
                self.found[:2] + ((7, 12, A),), (list(self.found[0]),) + self.found[1:],
                ((False, 3, A),) + self.found[1:], ((0, 3.0, A),) + self.found[1:], (None,) + self.found[1:],
                ((0, 3, ["a"]),) + self.found[1:], ((0, 3, Equal()),) + self.found[1:], ((0, 3),) + self.found[1:]]
        for thing in bent + list(ODD_THINGS):
            self.bad("mended", "mended", thing)

    def test_others_than_the_one_to_the_left(self):
        for cues in (((0, 3, A), (4, 7, B), (8, 12, A)), ((0, 3, A), (4, 8, B), (9, 12, A)),
                     ((0, 3, A), (5, 8, B), (9, 12, A)), ((0, 4, A), (5, 8, B), (9, 12, A))):
            self.assertEqual(check_mending(*self.told, ("mended", cues)), "mended")
        self.assertEqual(check_mending(self.file, 14, 3, 1, ("mended", self.found[:2] + ((9, 14, A),))), "mended")
        self.bad_paper("mended", check_mending, self.file, 14, 3, 1, ("mended", self.found[:2] + ((9, 15, A),)))

    def test_bars(self):
        told = (self.file, 12, 4, 1)
        self.assertEqual(mending_paper(*told), ("bar", 0, 2))
        held = [(low, high) for low in range(5) for high in range(5) if is_bar_by_hand(*told, low, high)]
        self.assertEqual(held, [(0, 2), (0, 3), (1, 3)])
        for low, high in held:
            self.assertEqual(check_mending(*told, ("bar", low, high)), "bar")
        for low, high in ((0, 0), (0, 1), (1, 2), (2, 0), (2, 3), (3, 3), (-1, 2), (0, 4), (0, -1), (4, 4), (False, 2),
                          (0, True), (0, 2.0), (0.0, 2), (None, 2), (0, None), ("0", 2), (0, 10 ** 999),
                          (-10 ** 999, 2), (Equal(), 2), (0, Equal()), ((0,), 2)):
            self.bad_paper("bar", check_mending, *told, ("bar", low, high))
        for thing in ODD_THINGS:
            if thing is False or thing != 0:
                self.bad_paper("bar", check_mending, *told, ("bar", thing, 2))
            self.bad_paper("bar", check_mending, *told, ("bar", 0, thing))

    def test_the_words_are_not_mixed(self):
        self.bad("bar", "bar", 0, 2)
        self.bad_paper("mended", check_mending, self.file, 12, 4, 1, ("mended", self.file))


class Refusals(Case):
    file = ((2, 3, A),)

    def both(self, *told):
        for call, rest in ((mended, ()), (mending_paper, ()), (check_mending, (("mended", ()),)),
                           (check_mending, (None,))):
            with self.assertRaises(OutOfPlace) as caught:
                call(*told, *rest)
            self.assertIs(caught.exception.__class__, OutOfPlace)

    def test_what_is_not_flat_is_out_of_place(self):
        for file in (((2, 3, A), (3, 4, A)), ((2, 5, A), (4, 6, B)), ((4, 5, A), (1, 2, A)), [(2, 3, A)], ((2, 2, A),),
                     ((2, 3, "a"),), ((2, GREAT + 1, A),), (None,), ((2, 3, A),) * 120, *ODD_THINGS):
            self.both(file, 9, 1, 0)
            self.both(file, None, None, None)

    def test_numbers(self):
        for end in (-1, GREAT + 1, None, True, False, 1.0, "9", 10 ** 999):
            self.both(self.file, end, 1, 0)
        for least in (0, -1, MOST + 1, None, True, 1.0, "1", 10 ** 999):
            self.both(self.file, 9, least, 0)
        for gap in (-1, MOST + 1, None, True, False, 0.0, "0", 10 ** 999):
            self.both(self.file, 9, 1, gap)

    def test_limits_of_numbers(self):
        self.assertEqual(mended(self.file, 3, 1, 0), self.file)
        self.assertEqual(mended(self.file, GREAT, MOST, MOST), ((0, MOST, A),))
        self.assertIsNone(mended(self.file, 0, 1, 0))
        self.assertEqual(mending_paper(gap=0, least=1, end=0, file=self.file), ("bar", 0, 1))
        self.assertEqual(check_mending(file=self.file, end=0, least=1, gap=0, paper=("bar", 0, 1)), "bar")

    def test_its_files_are_files_and_what_it_takes_is_flat(self):
        self.assertTrue(is_flat(self.file))
        self.assertTrue(need_file(mended(self.file, 9, 5, 0)))
