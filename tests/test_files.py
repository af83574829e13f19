"""[5]: files, what is seen of them, flat ones, and files laid over others."""

import time

from captionhouse.errors import BadFile, OutOfPlace
from captionhouse.files import alike, apart, flat, is_flat, laid, need_file, seen
from captionhouse.plans import plan, plan_file
from tests.brute import (chance_of, flat_by_hand, picture_by_hand, seen_by_hand, some_file, some_rules, some_spoken)
from tests.helpers import ODD_THINGS, Case

A, B, C = ("a",), ("b",), ("c",)
GREAT = 10 ** 12
FRAMES = 11
# Sixty cues, each over the middle of the one ahead: 119 pieces are seen.
NESTED = tuple((k, 1000 - k, (str(k),)) for k in range(60))
NESTED_FLAT = (tuple((k, k + 1, (str(k),)) for k in range(59)) + ((59, 941, ("59",)),)
               + tuple((1000 - k - 1, 1000 - k, (str(k),)) for k in reversed(range(59))))


class NeedFile(Case):
    def wrong(self, number, thing):
        self.refused(BadFile, "number", number, need_file, thing)

    def test_it_gives_the_very_thing(self):
        for file in ((), ((0, 1, A),), ((GREAT - 1, GREAT, A),), ((0, GREAT, ("a" * 40,) * 4),), NESTED,
                     ((5, 9, A), (0, 7, B), (5, 9, A)), ((0, 1, ("a b", "!~", "x" + " " * 38 + "y")),)):
            self.assertIs(need_file(file), file)
            self.assertIs(need_file(thing=file), file)

    def test_no_tuple_of_at_most_sixty_things(self):
        for thing in [((0, 1, A),) * 61, [(0, 1, A)], None, "a", 0, {}, True, b"", iter(())]:
            self.wrong(None, thing)
        self.assertTrue(need_file(((0, 1, A),) * 60))

    def test_wrong_cues_have_their_numbers(self):
        wrong = [None, 3, "abc", (0, 1), (0, 1, A, A), [0, 1, A], (), (-1, 1, A), (1, 1, A), (2, 1, A),
                 (0, GREAT + 1, A), (GREAT, GREAT, A), (GREAT, GREAT + 1, A), (None, 1, A), (0, None, A), (False, 1, A),
                 (0, True, A), (0.0, 1, A), ("0", 1, A), (0, 10 ** 999, A), (0, 1, ()), (0, 1, A * 5), (0, 1, "a"),
                 (0, 1, ["a"]), (0, 1, None), (0, 1, ("",)), (0, 1, ("a" * 41,)), (0, 1, (" a",)), (0, 1, ("a ",)),
                 (0, 1, (" ",)), (0, 1, ("a%b",)), (0, 1, ("a\nb",)), (0, 1, ("\x7f",)), (0, 1, ("\xe9",)),
                 (0, 1, (b"a",)), (0, 1, (1,)), (0, 1, (None,)), (0, 1, ("a", "b", "")), (0, 1, (A,))]
        for thing in wrong:
            self.wrong(0, (thing,))
            self.wrong(1, ((4, 5, A), thing, None))
            self.wrong(59, ((4, 5, A),) * 59 + (thing,))

    def test_all_signs_but_the_percent_sign(self):
        for code in range(200):
            file = ((0, 1, ("a" + chr(code) + "b",)),)
            if 32 <= code <= 126 and code != 37:
                self.assertIs(need_file(file), file)
            else:
                self.wrong(0, file)

    def test_all_odd_things(self):
        for thing in ODD_THINGS:
            self.assertRaises(BadFile, need_file, thing)
            self.assertRaises(BadFile, need_file, (thing,))
            self.assertRaises(BadFile, need_file, ((0, 1, thing),))

    def test_files_of_plans(self):
        chance = chance_of(60)
        for _ in range(100):
            spoken = some_spoken(chance)
            rules = some_rules(chance)
            found = plan(spoken, rules)
            if found is not None:
                file = plan_file(spoken, rules, found)
                self.assertIs(need_file(file), file)


class AgainstEachFrame(Case):
    def test_random_files(self):
        chance = chance_of(61)
        unlike = 0
        for number in range(600):
            one = some_file(chance, 6, FRAMES, "ab" if number % 2 else "abc")
            other = some_file(chance, 4, FRAMES, "ab")
            picture = picture_by_hand(one, FRAMES + 1)
            for frame in range(FRAMES + 2):
                self.assertEqual(seen(one, frame), seen_by_hand(one, frame))
            self.assertEqual(flat(one), flat_by_hand(picture))
            self.assertTrue(is_flat(flat(one)))
            self.assertEqual(is_flat(one), one == flat(one))
            self.look_at_two(one, other)
            self.look_at_two(one, flat(one))
            unlike += apart(one, other) is not None
        self.assertGreater(unlike, 300)

    def look_at_two(self, one, other):
        upper = picture_by_hand(one, FRAMES + 1)
        lower = picture_by_hand(other, FRAMES + 1)
        unlike = [frame for frame in range(FRAMES + 1) if upper[frame] != lower[frame]]
        self.assertIs(alike(one, other), not unlike)
        self.assertEqual(apart(one, other), unlike[0] if unlike else None)
        self.assertEqual(laid(one, other), flat_by_hand([a or b for a, b in zip(upper, lower)]))

    def test_all_files_of_two_cues(self):
        cues = [(start, end, text) for start in range(4) for end in range(start + 1, 5) for text in (A, B)]
        for one in cues:
            for other in cues:
                file = (one, other)
                self.assertEqual(flat(file), flat_by_hand(picture_by_hand(file, 5)))
                self.assertEqual(is_flat(file), file == flat(file))
                self.assertEqual(laid((one,), (other,)), flat_by_hand(
                    [a or b for a, b in zip(picture_by_hand((one,), 5), picture_by_hand((other,), 5))]))


class ByHand(Case):
    def test_the_greatest_from_is_seen_then_the_later_one(self):
        file = ((5, 9, A), (0, 7, B))
        self.assertEqual([seen(file, frame) for frame in (0, 4, 5, 6, 7, 8, 9)], [B, B, A, A, A, A, None])
        self.assertEqual(seen(((3, 9, A), (3, 5, B)), 3), B)
        self.assertEqual(seen(((3, 9, A), (3, 5, B)), 5), A)
        self.assertEqual(seen(((3, 5, B), (3, 9, A)), 3), A)
        self.assertIsNone(seen((), 0))

    def test_a_cue_comes_back_from_under_another_one(self):
        file = ((0, 10, A), (4, 6, B))
        self.assertEqual(flat(file), ((0, 4, A), (4, 6, B), (6, 10, A)))

    def test_cues_that_touch_with_the_same_text_are_one(self):
        self.assertEqual(flat(((0, 2, A), (2, 4, A))), ((0, 4, A),))
        self.assertEqual(flat(((0, 2, A), (2, 4, B))), ((0, 2, A), (2, 4, B)))
        self.assertEqual(flat(((0, 2, A), (3, 4, A))), ((0, 2, A), (3, 4, A)))
        self.assertEqual(flat(((0, 3, A), (1, 5, A), (5, 6, A))), ((0, 6, A),))
        self.assertEqual(flat(((0, 5, A), (2, 5, B))), ((0, 2, A), (2, 5, B)))

    def test_unlike_texts_are_those_with_unlike_lines(self):
        self.assertFalse(alike(((0, 1, ("a", "b")),), ((0, 1, ("a b",)),)))
        self.assertTrue(alike(((0, 1, ("a", "b")),), ((0, 1, ("a", "b")),)))

    def test_apart(self):
        self.assertEqual(apart(((0, 9, A),), ((0, 8, A),)), 8)
        self.assertEqual(apart(((0, 9, A),), ((0, 9, B),)), 0)
        self.assertEqual(apart((), ((7, 9, B),)), 7)
        self.assertEqual(apart(((0, 9, A), (3, 4, B)), ((0, 9, A), (3, 5, B))), 4)
        self.assertIsNone(apart((), ()))
        self.assertIsNone(apart(((0, 9, A),), ((4, 9, A), (0, 5, A))))

    def test_laid(self):
        self.assertEqual(laid(((2, 4, A),), ((0, 9, B),)), ((0, 2, B), (2, 4, A), (4, 9, B)))
        # FROM does not count between the two.
        self.assertEqual(laid(((0, 9, B),), ((2, 4, A),)), ((0, 9, B),))
        self.assertEqual(laid(((0, 2, A),), ((2, 4, A),)), ((0, 4, A),))
        self.assertEqual(laid((), ((2, 4, A),)), ((2, 4, A),))
        self.assertEqual(laid(upper=((2, 4, A),), lower=()), ((2, 4, A),))
        self.assertEqual(laid((), ()), ())

    def test_frames_far_off(self):
        file = ((0, GREAT, A), (GREAT - 1, GREAT, B), (10 ** 11, 10 ** 11 + 1, C))
        self.assertEqual(flat(file), ((0, 10 ** 11, A), (10 ** 11, 10 ** 11 + 1, C), (10 ** 11 + 1, GREAT - 1, A),
                                      (GREAT - 1, GREAT, B)))
        self.assertEqual(seen(file, GREAT - 2), A)
        self.assertEqual(seen(file, GREAT - 1), B)
        self.assertIsNone(seen(file, GREAT))
        self.assertEqual(apart(file, file[:1]), 10 ** 11)
        self.assertEqual(laid(file[1:], file[:1]), flat(file))

    def test_without_cues(self):
        self.assertEqual(flat(()), ())
        self.assertTrue(is_flat(()))
        self.assertTrue(alike((), ()))

    def test_sixty_cues(self):
        begun = time.monotonic()
        self.assertEqual(flat(NESTED), NESTED_FLAT)
        self.assertEqual(len(NESTED_FLAT), 119)
        self.assertTrue(alike(NESTED, tuple(NESTED[::-1])))
        self.assertEqual(laid(NESTED, NESTED), NESTED_FLAT)
        shifted = tuple((start + 2000, end + 2000, text) for start, end, text in NESTED)
        self.assertEqual(len(laid(NESTED, shifted)), 238)
        self.assertLess(time.monotonic() - begun, 20)


class IsFlat(Case):
    def test_up_to_119_cues(self):
        self.assertIs(is_flat(NESTED_FLAT), True)
        self.assertIs(is_flat(thing=NESTED_FLAT), True)
        more = NESTED_FLAT + ((1000, 1001, ("x",)),)
        self.assertIs(is_flat(more), False)
        self.assertIs(is_flat(more[1:]), True)

    def test_the_clauses(self):
        self.assertTrue(is_flat(((0, 2, A), (2, 3, B), (4, 5, B))))
        for thing in (((0, 2, A), (2, 3, A)), ((0, 2, A), (1, 3, B)), ((4, 5, A), (0, 2, B)), ((0, 2, A), (0, 2, A)),
                      ((0, 2, A), (0, 3, B)), ((0, 5, A), (2, 3, A)), ((3, 5, A), (2, 6, B))):
            self.assertIs(is_flat(thing), False)

    def test_any_value(self):
        things = [[(0, 2, A)], ([0, 2, A],), ((0, 2),), ((0, 2, A), None), ((0, 0, A),), ((-1, 2, A),), ((0, 2, "a"),),
                  ((0, 2, (" a",)),), ((0, GREAT + 1, A),), ((False, 2, A),), (0, 2, A), ((0, 2, A), (3, 4, ()))]
        for thing in things + list(ODD_THINGS):
            self.assertIs(is_flat(thing), False)


class Refusals(Case):
    def test_frames(self):
        for frame in (-1, GREAT + 1, None, True, False, 0.0, "0", (0,), [0], 10 ** 999):
            self.assertRaises(OutOfPlace, seen, ((0, 1, A),), frame)
        self.assertEqual(seen(file=((0, 1, A),), frame=0), A)

    def test_the_first_argument_comes_first(self):
        wrong = ((0, 1, A), (1, 1, A))
        also = (None,)
        self.refused(BadFile, "number", 1, seen, wrong, None)
        self.refused(BadFile, "number", 1, flat, wrong)
        self.refused(BadFile, "number", None, flat, NESTED_FLAT)
        for call in (alike, apart, laid):
            self.refused(BadFile, "number", 1, call, wrong, ())
            self.refused(BadFile, "number", 1, call, wrong, also)
            self.refused(BadFile, "number", 0, call, (), also)
            self.refused(BadFile, "number", None, call, (), None)
        self.assertTrue(alike(one=(), other=()))
        self.assertIsNone(apart(other=(), one=()))
