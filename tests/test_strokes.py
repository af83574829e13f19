"""[6]: files with the fewest cues, and the papers on them."""

import time

from captionhouse.errors import BadFile
from captionhouse.files import alike, flat, need_file
from captionhouse.strokes import check_strokes, fewest, fewest_file, strokes_paper
from tests.brute import chance_of, flat_by_hand, picture_by_hand, some_file
from tests.helpers import ODD_THINGS, Case

A, B, C = ("a",), ("b",), ("c",)
COMES_BACK = ((0, 2, A), (2, 4, B), (4, 6, A))
GREAT = 10 ** 12


def fewest_of_all_pictures(frames, texts):
    """For each picture of so many frames the least number of cues of a FILE that shows it.

    What is SEEN of a FILE is that of its cues in the order of their FROM; so
    each FILE is gone through, one cue on top of those ahead.
    """
    blank = (None,) * frames
    least = {blank: 0}
    known = {(blank, 0)}
    reached = [(blank, 0)]
    number = 0
    while reached:
        number += 1
        beyond = []
        for picture, lowest in reached:
            for start in range(lowest, frames):
                for end in range(start + 1, frames + 1):
                    for text in texts:
                        shown = picture[:start] + (text,) * (end - start) + picture[end:]
                        least.setdefault(shown, number)
                        if (shown, start) not in known:
                            known.add((shown, start))
                            beyond.append((shown, start))
        reached = beyond
    return least


def bounds_hold_by_hand(cues, bounds, number):
    """Whether BOUNDS are as [6] tells, for FLAT cues and a number of cues."""
    many = len(cues)
    if not isinstance(bounds, tuple) or len(bounds) != many:
        return False
    for i, row in enumerate(bounds):
        if not isinstance(row, tuple) or len(row) != many - i or any(type(bound) is not int for bound in row):
            return False
    if many == 0:
        return number == 0

    def bound(i, j):
        return bounds[i][j - i]

    for i in range(many):
        if bound(i, i) > 1:
            return False
        for j in range(i + 1, many):
            if bound(i, j) > bound(i, j - 1) + 1:
                return False
            for k in range(i, j):
                touching = all(cues[m][0] == cues[m - 1][1] for m in range(k + 1, j + 1))
                if cues[k][2] == cues[j][2] and touching:
                    if bound(i, j) > bound(i, k) + (bound(k + 1, j - 1) if k + 1 < j else 0):
                        return False
    return bound(0, many - 1) == number


class AgainstAll(Case):
    def look(self, file, number):
        self.assertEqual(fewest(file), number)
        found = fewest_file(file)
        self.assertIs(need_file(found), found)
        self.assertTrue(alike(found, file))
        self.assertEqual(len(found), number)
        self.assertEqual(fewest_file(file), found)
        paper = strokes_paper(file)
        self.assertEqual(len(paper), 2)
        self.assertEqual(len(paper[0]), number)
        self.assertTrue(alike(paper[0], file))
        self.assertTrue(bounds_hold_by_hand(flat(file), paper[1], number))
        self.assertEqual(check_strokes(file, paper), number)

    def test_all_pictures_with_two_texts(self):
        least = fewest_of_all_pictures(6, (A, B))
        self.assertEqual(len(least), 3 ** 6)
        for picture, number in least.items():
            self.look(flat_by_hand(picture), number)

    def test_all_pictures_with_three_texts(self):
        least = fewest_of_all_pictures(5, (A, B, C))
        self.assertEqual(len(least), 4 ** 5)
        for picture, number in least.items():
            self.look(flat_by_hand(picture), number)

    def test_files_that_are_not_flat(self):
        least = fewest_of_all_pictures(6, (A, B))
        chance = chance_of(70)
        for _ in range(300):
            file = some_file(chance, 6, 6, "ab")
            self.look(file, least[tuple(picture_by_hand(file, 6))])


class ByHand(Case):
    def test_texts_that_come_back(self):
        self.assertEqual(fewest(COMES_BACK), 2)
        self.assertEqual(fewest_file(COMES_BACK), ((0, 6, A), (2, 4, B)))
        self.assertEqual(strokes_paper(COMES_BACK)[1], ((1, 2, 2), (1, 2), (1,)))
        self.assertEqual(fewest(((0, 2, A), (2, 4, B), (4, 6, A), (6, 8, B))), 3)
        self.assertEqual(fewest(((0, 2, A), (2, 4, B), (4, 6, C), (6, 8, B), (8, 9, A))), 3)

    def test_a_gap_is_seen_through(self):
        self.assertEqual(fewest(((0, 2, A), (3, 4, A))), 2)
        self.assertEqual(fewest(((0, 2, A), (2, 4, B), (5, 6, A))), 3)
        self.assertEqual(fewest(((0, 2, A), (2, 3, B), (4, 5, B), (5, 6, A))), 4)

    def test_alternating_texts(self):
        for many in range(1, 60):
            touching = tuple((k, k + 1, A if k % 2 == 0 else B) for k in range(many))
            self.assertEqual(fewest(touching), many // 2 + 1)
            apart = tuple((2 * k, 2 * k + 1, A if k % 2 == 0 else B) for k in range(many))
            self.assertEqual(fewest(apart), many)

    def test_without_cues(self):
        self.assertEqual(fewest(()), 0)
        self.assertEqual(fewest_file(()), ())
        self.assertEqual(strokes_paper(()), ((), ()))
        self.assertEqual(check_strokes((), ((), ())), 0)
        self.bad_paper("file", check_strokes, (), (((0, 1, A),), ()))
        self.bad_paper("bounds", check_strokes, (), ((), ((),)))
        self.bad_paper("bounds", check_strokes, (), ((), ((0,),)))
        self.bad_paper("bounds", check_strokes, (), ((), None))

    def test_sixty_cues(self):
        begun = time.monotonic()
        for texts in ([(str(k),) for k in range(60)], [(A, B)[k % 2] for k in range(60)],
                      [(A, B, C)[k % 3] for k in range(60)]):
            nested = tuple((k, GREAT - k, texts[k]) for k in range(60))
            self.assertEqual(len(flat(nested)), 119)
            self.assertEqual(fewest(nested), 60)
            paper = strokes_paper(nested)
            self.assertTrue(alike(paper[0], nested))
            self.assertEqual(check_strokes(nested, paper), 60)
            self.assertTrue(bounds_hold_by_hand(flat(nested), paper[1], 60))
        self.assertLess(time.monotonic() - begun, 60)

    def test_names_of_arguments(self):
        self.assertEqual(fewest(file=COMES_BACK), 2)
        self.assertEqual(fewest_file(file=COMES_BACK), fewest_file(COMES_BACK))
        paper = strokes_paper(file=COMES_BACK)
        self.assertEqual(check_strokes(file=COMES_BACK, paper=paper), 2)


class Papers(Case):
    def test_no_pair(self):
        file, bounds = strokes_paper(COMES_BACK)
        for thing in [[file, bounds], (file,), (file, bounds, 0), (), file + (1,)] + list(ODD_THINGS):
            self.bad_paper("form", check_strokes, COMES_BACK, thing)

    def test_what_is_no_alike_file(self):
        file, bounds = strokes_paper(COMES_BACK)
        things = [((0, 6, A), (2, 5, B)), ((0, 6, A),), ((0, 6, B), (2, 4, A)), list(file), file[::-1][:1], (),
                  ((0, 6, A), (2, 4, B), (9, 9, A)), ((0, 6, A), [2, 4, B])]
        for thing in things + list(ODD_THINGS):
            self.bad_paper("file", check_strokes, COMES_BACK, (thing, bounds))
            self.bad_paper("file", check_strokes, COMES_BACK, (thing, None))
        # Any order and any other FILE of as many cues will do.
        self.assertEqual(check_strokes(COMES_BACK, (((2, 4, B), (0, 6, A)), bounds)), 2)
        self.assertEqual(check_strokes(COMES_BACK, (((0, 6, A), (2, 4, B)), bounds)), 2)

    def test_a_file_with_more_cues(self):
        _, bounds = strokes_paper(COMES_BACK)
        for bent in (bounds, ((1, 2, 3), (1, 2), (1,)), ((1, 2, 3), (1, 3), (1,)), ((1, 2, 3), (1, 3), (2,))):
            self.bad_paper("bounds", check_strokes, COMES_BACK, (COMES_BACK, bent))
        more = ((0, 6, A), (2, 4, B), (2, 3, B))
        self.assertTrue(alike(more, COMES_BACK))
        self.bad_paper("bounds", check_strokes, COMES_BACK, (more, bounds))

    def test_bounds(self):
        file, bounds = strokes_paper(COMES_BACK)
        things = [(), bounds[:2], bounds + ((),), list(bounds), (list(bounds[0]),) + bounds[1:], ((1, 2), (1, 2), (1,)),
                  ((1, 2, 2, 2), (1, 2), (1,)), ((1, 2, 3), (1, 2), (1,)), ((1, 2, 1), (1, 2), (1,)),
                  ((1, 2, 2), (1, 3), (1,)), ((1, 2, 2), (1, 2), (2,)), ((2, 2, 2), (1, 2), (1,)),
                  ((1, 2, 2), (0, 2), (1,)), ((1, 2, 2.0), (1, 2), (1,)), ((1, 2, 2), (1, 2), (True,)),
                  ((1, 2, 2), (1, None), (1,)), ((1, 2, "2"), (1, 2), (1,)), (bounds[0], None, bounds[2])]
        for thing in things + list(ODD_THINGS):
            self.bad_paper("bounds", check_strokes, COMES_BACK, (file, thing))
        # What nothing hangs on may be less.
        self.assertEqual(check_strokes(COMES_BACK, (file, ((1, 2, 2), (1, -10 ** 999), (-5,)))), 2)
        self.assertEqual(check_strokes(COMES_BACK, (file, ((1, 1, 2), (1, 2), (1,)))), 2)

    def test_bent_in_one_place(self):
        chance = chance_of(71)
        holding = [0, 0]
        for _ in range(120):
            given = some_file(chance, 5, 9, "ab")
            file, bounds = strokes_paper(given)
            cues = flat(given)
            for i, row in enumerate(bounds):
                for j, bound in enumerate(row):
                    for change in (bound - 1, bound + 1, bound - 3):
                        bent = bounds[:i] + (row[:j] + (change,) + row[j + 1:],) + bounds[i + 1:]
                        holds = bounds_hold_by_hand(cues, bent, len(file))
                        holding[holds] += 1
                        if holds:
                            self.assertEqual(check_strokes(given, (file, bent)), len(file))
                        else:
                            self.bad_paper("bounds", check_strokes, given, (file, bent))
        self.assertGreater(min(holding), 100)

    def test_a_file_comes_first(self):
        wrong = ((0, 1, A), (1, 1, A))
        for call in (fewest, fewest_file, strokes_paper):
            self.refused(BadFile, "number", 1, call, wrong)
            self.refused(BadFile, "number", None, call, None)
            self.refused(BadFile, "number", None, call, ((0, 1, A),) * 61)
        self.refused(BadFile, "number", 1, check_strokes, wrong, None)
        self.refused(BadFile, "number", None, check_strokes, [], ((), ()))
