"""[2]: words, sizes and breakings."""

import inspect
import time
from itertools import islice

from captionhouse.errors import BadWords, Nothing, OutOfPlace
from captionhouse.lines import (best, breaking_at, breakings, fits, lines_of, many_breakings, need_words,
                                number_of)
from tests.brute import best_by_hand, breakings_by_hand, chance_of, counts_of, is_breaking_by_hand, lines_by_hand
from tests.helpers import ODD_THINGS, Case

EXAMPLE = (("a", 0), ("bb", 0), ("c", 0), ("dd", 0))
SIXTY = (("a", 0),) * 60
CALLS = (fits, best, many_breakings, lambda words, size: list(breakings(words, size)))


def some_words(chance, most_words=7):
    many = chance.randint(1, most_words)
    holds = [int(chance.random() < 0.25) for _ in range(many - 1)] + [0]
    return tuple(("abcde"[:chance.randint(1, 5)], hold) for hold in holds)


class NeedWords(Case):
    def wrong(self, number, thing):
        self.refused(BadWords, "number", number, need_words, thing)

    def test_it_gives_the_very_thing(self):
        for words in (EXAMPLE, SIXTY, (("!" * 40, 0),), (("~", 1), ("a&$", 0))):
            self.assertIs(need_words(words), words)
            self.assertIs(need_words(thing=words), words)

    def test_no_tuple_of_as_many_things(self):
        for thing in [(), SIXTY + (("a", 0),), list(EXAMPLE), None, "ab", 7, {("a", 0): 1}, iter(EXAMPLE)]:
            self.wrong(None, thing)

    def test_wrong_things_have_their_numbers(self):
        wrong = [None, "a0", ["a", 0], ("a",), ("a", 0, 0), (), ("", 0), ("a" * 41, 0), ("a b", 0), (" ", 0),
                 ("a%", 0), ("a\n", 0), ("\x7f", 0), ("\xe4", 0), ("a\t", 0), (b"a", 0), (7, 0), (None, 0), ("a", 2),
                 ("a", -1), ("a", True), ("a", False), ("a", None), ("a", "0"), ("a", 0.0), (("a",), 0)]
        for thing in wrong:
            self.wrong(0, (thing,))
            self.wrong(0, (thing, ("b", 0)))
            self.wrong(2, (("a", 0), ("b", 1), thing, ("", 0)))
            self.wrong(59, SIXTY[1:] + (thing,))

    def test_all_signs_but_the_percent_sign(self):
        for code in range(200):
            words = ((chr(code), 0),)
            if 33 <= code <= 126 and code != 37:
                self.assertIs(need_words(words), words)
            else:
                self.wrong(0, words)

    def test_the_last_one_that_holds(self):
        self.wrong(0, (("a", 1),))
        self.wrong(2, (("a", 1), ("a", 0), ("a", 1)))
        self.wrong(1, (("a", 1), ("a", 2), ("a", 1)))
        self.wrong(59, SIXTY[1:] + (("a", 1),))

    def test_all_odd_things(self):
        for thing in ODD_THINGS:
            self.assertRaises(BadWords, need_words, thing)
            self.assertRaises(BadWords, need_words, (thing,))
            if thing != "plan":
                self.assertRaises(BadWords, need_words, ((thing, 0),))
            if thing != 0 or isinstance(thing, bool):
                self.assertRaises(BadWords, need_words, (("a", thing),))


class Breakings(Case):
    def look(self, words, size):
        """Everything that is told of words in a size, against all breakings."""
        found = breakings_by_hand(words, size)
        self.assertEqual(list(breakings(words, size)), found)
        self.assertEqual(many_breakings(words, size), len(found))
        self.assertIs(fits(words, size), bool(found))
        self.assertEqual(best(words, size), best_by_hand(words, size))
        for number, breaking in enumerate(found):
            self.assertEqual(breaking_at(words, size, number), breaking)
            self.assertEqual(number_of(words, size, breaking), number)
        self.assertRaises(Nothing, breaking_at, words, size, len(found))
        self.assertRaises(Nothing, breaking_at, words, size, 10 ** 999)
        for counts in counts_of(len(words)):
            if counts not in found:
                self.out_of_place(number_of, words, size, counts)
            if is_breaking_by_hand(words, counts):
                self.assertEqual(lines_of(words, counts), lines_by_hand(words, counts))
            else:
                self.out_of_place(lines_of, words, counts)
        return len(found)

    def test_against_all_breakings(self):
        chance = chance_of(2)
        many = [self.look(some_words(chance), (chance.randint(1, 4), chance.randint(1, 20))) for _ in range(400)]
        self.assertGreater(many.count(0), 40)
        self.assertGreater(len([number for number in many if number > 3]), 40)

    def test_the_example(self):
        self.assertEqual(best(EXAMPLE, (2, 6)), (2, 2))
        self.assertEqual(lines_of(EXAMPLE, (2, 2)), ("a bb", "c dd"))
        self.assertEqual(list(breakings(EXAMPLE, (2, 6))), [(2, 2), (3, 1)])
        self.look(EXAMPLE, (2, 6))

    def test_ascending(self):
        found = list(breakings(SIXTY[:12], (4, 9)))
        self.assertEqual(found, sorted(set(found)))
        self.assertGreater(len(found), 50)

    def test_the_best_of_several_with_as_few_lines(self):
        # (1, 3), (2, 2) and (3, 1) fit; (2, 2) alone has the greatest width 3.
        self.assertEqual(best(SIXTY[:4], (2, 6)), (2, 2))
        # (1, 2) and (2, 1) have the same greatest width: the first one is taken.
        self.assertEqual(best(SIXTY[:3], (2, 4)), (1, 2))
        # One line less is better than a lesser width.
        self.assertEqual(best(SIXTY[:4], (2, 7)), (4,))
        # The greatest width counts, the others do not: behind (1, 2, 1) come (1, 3), (2, 1, 1) and the like.
        self.assertEqual(best((("aaaa", 0), ("b", 0), ("c", 0), ("d", 0)), (3, 6)), (1, 3))

    def test_words_that_hold(self):
        words = (("a", 1), ("b", 1), ("c", 0), ("d", 0))
        self.assertEqual(list(breakings(words, (4, 40))), [(3, 1), (4,)])
        self.assertFalse(fits(words, (4, 4)))
        self.assertTrue(fits(words, (2, 5)))
        self.assertFalse(fits(words, (1, 5)))
        self.assertEqual(best(words, (2, 6)), (3, 1))
        self.out_of_place(lines_of, words, (2, 2))
        self.out_of_place(number_of, words, (4, 40), (1, 3))
        self.look(words, (3, 6))
        held = (("a", 1),) * 59 + (("a", 0),)
        self.assertFalse(fits(held, (4, 40)))
        self.assertEqual(list(breakings(held, (4, 40))), [])

    def test_the_longest_line_first_takes_the_fewest(self):
        # To fill the first line must not leave a word behind that cannot stand.
        words = (("aa", 0), ("b", 1), ("cc", 0), ("d", 0))
        for columns in range(1, 10):
            for rows in range(1, 5):
                self.look(words, (rows, columns))

    def test_sixty_words(self):
        size = (4, 40)
        begun = time.monotonic()
        ends = [(a, b, c) for a in range(61) for b in range(a, 61) for c in range(b, 61)
                if max(a, b - a, c - b, 60 - c) <= 20 and a > 0 and b > a and c > b]
        many = len([end for end in ends if end[2] < 60]) + 1
        self.assertEqual(many_breakings(SIXTY, size), many)
        self.assertEqual(best(SIXTY, size), (20, 20, 20))
        first = list(islice(breakings(SIXTY, size), 3))
        self.assertEqual(first, [(1, 19, 20, 20), (1, 20, 19, 20), (1, 20, 20, 19)])
        self.assertEqual(breaking_at(SIXTY, size, many - 1), (20, 20, 20))
        self.assertEqual(number_of(SIXTY, size, (20, 20, 20)), many - 1)
        for number in range(0, many, 97):
            self.assertEqual(number_of(SIXTY, size, breaking_at(SIXTY, size, number)), number)
        self.assertLess(time.monotonic() - begun, 20)

    def test_a_size_that_just_holds_or_just_does_not(self):
        word = "x" * 40
        for many in range(1, 5):
            words = ((word, 0),) * many
            self.assertTrue(fits(words, (many, 40)))
            self.assertEqual(best(words, (many, 40)), (1,) * many)
            self.assertFalse(fits(words, (many, 39)))
            if many > 1:
                self.assertFalse(fits(words, (many - 1, 40)))
                self.assertIsNone(best(words, (many - 1, 40)))
                self.assertEqual(many_breakings(words, (many - 1, 40)), 0)
        words = (("abc", 0), ("de", 0))
        self.assertTrue(fits(words, (1, 6)))
        self.assertFalse(fits(words, (1, 5)))
        self.assertFalse(fits(SIXTY + (), (3, 38)))
        self.assertTrue(fits(SIXTY, (3, 39)))


class Refusals(Case):
    SIZES = ((0, 5), (5, 5), (2, 0), (2, 41), (True, 5), (2, True), (2,), (2, 5, 5), (), [2, 5], None, "25", 2,
             (2, None), ("2", 5), (2, 5.0), (-1, 5), (2, 10 ** 999))

    def test_sizes(self):
        for size in self.SIZES:
            for call in CALLS:
                self.out_of_place(call, EXAMPLE, size)
            self.out_of_place(breaking_at, EXAMPLE, size, 0)
            self.out_of_place(number_of, EXAMPLE, size, (2, 2))
        for size in ((1, 1), (4, 40), (1, 40), (4, 1)):
            self.assertIn(fits(EXAMPLE, size), (True, False))

    def test_the_first_argument_comes_first(self):
        wrong = (("a", 0), ("", 0))
        for call in CALLS:
            self.refused(BadWords, "number", 1, call, wrong, (2, 5))
            self.refused(BadWords, "number", 1, call, wrong, None)
        for call in (breaking_at, number_of):
            self.refused(BadWords, "number", 1, call, wrong, None, None)
            self.refused(BadWords, "number", 1, call, wrong, (2, 5), (2,))
        self.refused(BadWords, "number", 1, lines_of, wrong, None)
        self.refused(BadWords, "number", 1, lines_of, wrong, (1, 1))
        # A size is refused ahead of a number that no breaking has.
        self.out_of_place(breaking_at, EXAMPLE, (0, 5), 10 ** 9)

    def test_breakings(self):
        things = [None, 4, "4", [2, 2], (), (2, 1), (2, 3), (0, 4), (4, 0), (-1, 5), (2, True, 1), (2, 2.0), (2, "2"),
                  (2, None), ((2, 2),), (1, 1, 1, 1, 0), (10 ** 999,)]
        for thing in things + list(ODD_THINGS):
            self.out_of_place(lines_of, EXAMPLE, thing)
            self.out_of_place(number_of, EXAMPLE, (4, 40), thing)
        self.assertEqual(lines_of(EXAMPLE, (1, 1, 1, 1)), ("a", "bb", "c", "dd"))
        self.assertEqual(lines_of((("a" * 40, 0), ("b" * 40, 0)), (2,)), ("a" * 40 + " " + "b" * 40,))
        self.out_of_place(number_of, EXAMPLE, (3, 40), (1, 1, 1, 1))
        self.out_of_place(number_of, EXAMPLE, (2, 5), (3, 1))

    def test_numbers(self):
        for thing in (None, True, False, -1, "0", 0.0, (0,), [0], -10 ** 999):
            self.out_of_place(breaking_at, EXAMPLE, (2, 6), thing)
        self.assertRaises(Nothing, breaking_at, EXAMPLE, (2, 6), 2)
        self.assertRaises(Nothing, breaking_at, EXAMPLE, (1, 2), 0)

    def test_the_generator_waits_with_its_errors(self):
        self.assertTrue(inspect.isgenerator(breakings(EXAMPLE, (2, 6))))
        waiting = breakings((), (2, 6))
        self.assertRaises(BadWords, next, waiting)
        waiting = breakings(EXAMPLE, None)
        self.assertRaises(OutOfPlace, next, waiting)

    def test_names_of_arguments(self):
        self.assertTrue(fits(words=EXAMPLE, size=(2, 6)))
        self.assertEqual(best(size=(2, 6), words=EXAMPLE), (2, 2))
        self.assertEqual(lines_of(words=EXAMPLE, breaking=(4,)), ("a bb c dd",))
        self.assertEqual(many_breakings(words=EXAMPLE, size=(2, 6)), 2)
        self.assertEqual(list(breakings(words=EXAMPLE, size=(2, 6))), [(2, 2), (3, 1)])
        self.assertEqual(breaking_at(words=EXAMPLE, size=(2, 6), number=1), (3, 1))
        self.assertEqual(number_of(words=EXAMPLE, size=(2, 6), breaking=(3, 1)), 1)
