"""[3], [4] first paragraph, [11]: spoken words, rules, plans, least ends and their papers."""

import time

from captionhouse.errors import BadRules, BadSpoken, OutOfPlace
from captionhouse.lines import best, lines_of
from captionhouse.plans import (check_plan, is_plan, least_ends, least_late, need_rules, need_spoken, plan, plan_file,
                                plan_paper)
from tests.brute import (bounds_hold_by_hand, breakings_by_hand, chance_of, counts_of, least_end_of, least_ends_by_hand,
                         plan_holds, rows_of_bounds, some_rules, some_spoken)
from tests.helpers import ODD_THINGS, Case, Equal

SPOKEN = (("ab", 0, 10, 12), ("cd", 1, 12, 15), ("e", 0, 15, 18), ("fgh", 0, 30, 33))
RULES = (2, 6, 5, 20, 2, 2, 3, 4, 3)
PLAN = ((3, 11, 22), (1, 28, 33))
# The rules, by name, so that a test can change one.
NAMES = ("rows", "columns", "least", "most", "gap", "letters", "frames", "early", "late")
GREAT = 10 ** 9


def with_rules(**changed):
    return tuple(changed.get(name, rule) for name, rule in zip(NAMES, RULES))


def with_word(number, **changed):
    names = ("word", "holds", "begin", "end")
    word = tuple(changed.get(name, thing) for name, thing in zip(names, SPOKEN[number]))
    return SPOKEN[:number] + (word,) + SPOKEN[number + 1:]


class NeedSpoken(Case):
    def wrong(self, number, thing):
        self.refused(BadSpoken, "number", number, need_spoken, thing)

    def test_it_gives_the_very_thing(self):
        sixty = (("a", 0, 0, 0),) * 60
        for spoken in (SPOKEN, sixty, (("!" * 40, 0, GREAT, GREAT),), (("a", 1, 3, 9), ("b", 0, 3, 3))):
            self.assertIs(need_spoken(spoken), spoken)
            self.assertIs(need_spoken(thing=spoken), spoken)

    def test_no_tuple_of_as_many_things(self):
        for thing in [(), (("a", 0, 0, 0),) * 61, list(SPOKEN), None, 4, "ab", {}]:
            self.wrong(None, thing)

    def test_wrong_things_have_their_numbers(self):
        wrong = [None, 3, "a", ("a", 0), ("a", 0, 20), ("a", 0, 20, 20, 0), ["a", 0, 20, 20], ("", 0, 20, 20),
                 ("a" * 41, 0, 20, 20), ("a b", 0, 20, 20), ("a%", 0, 20, 20), (b"a", 0, 20, 20), (1, 0, 20, 20),
                 ("a", 2, 20, 20), ("a", True, 20, 20), ("a", None, 20, 20), ("a", 0, -1, 20), ("a", 0, 20, 19),
                 ("a", 0, GREAT + 1, GREAT + 1), ("a", 0, 20, GREAT + 1), ("a", 0, None, 20), ("a", 0, 20, None),
                 ("a", 0, "20", 20), ("a", 0, 20, 20.0), ("a", 0, 20, 10 ** 999), ("a", 0, True, 20)]
        for thing in wrong:
            self.wrong(0, (thing,))
            self.wrong(1, (("a", 1, 15, 30), thing, ("", 0, 0, 0)))
        self.wrong(0, (("a", 0, 0, False),))

    def test_begin_less_than_the_one_ahead(self):
        self.wrong(2, with_word(2, begin=11))
        self.wrong(1, with_word(1, begin=9))
        self.wrong(1, (("a", 0, 5, 5), ("a", 0, 4, 4), ("a", 0, 3, 3)))
        self.assertEqual(need_spoken(with_word(1, begin=10))[1][2], 10)
        # An END may be less than one ahead.
        self.assertTrue(need_spoken((("a", 0, 5, 9), ("a", 0, 6, 7))))

    def test_the_last_one_that_holds(self):
        self.wrong(3, with_word(3, holds=1))
        self.wrong(0, (("a", 1, 0, 0),))
        self.wrong(1, (("a", 1, 5, 5), ("a", 1, 4, 4), ("a", 1, 4, 4)))

    def test_all_odd_things(self):
        for thing in ODD_THINGS:
            self.assertRaises(BadSpoken, need_spoken, thing)
            self.assertRaises(BadSpoken, need_spoken, (thing,))
            self.assertRaises(BadSpoken, need_spoken, (("a", 0, 1, thing),) if thing != 10 ** 999 and thing != 1
                              or isinstance(thing, bool) else (thing,))


class NeedRules(Case):
    def wrong(self, number, thing):
        self.refused(BadRules, "number", number, need_rules, thing)

    def test_it_gives_the_very_thing(self):
        for rules in (RULES, (1, 1, 1, 1, 0, 1, 0, 0, 0), (4, 40) + (GREAT,) * 7):
            self.assertIs(need_rules(rules), rules)
            self.assertIs(need_rules(thing=rules), rules)

    def test_no_tuple_of_nine_things(self):
        for thing in [(), RULES[:8], RULES + (0,), list(RULES), None, 9, "123456789", {}]:
            self.wrong(None, thing)

    def test_each_rule_has_its_bounds(self):
        for number, name in enumerate(NAMES):
            least = 1 if name in ("rows", "columns", "least", "most", "letters") else 0
            most = {"rows": 4, "columns": 40}.get(name, GREAT)
            wrong = [least - 1, most + 1, -1, None, True, "1", 1.0, (1,), 10 ** 999]
            for thing in wrong:
                self.wrong(number, with_rules(**{name: thing}))
            for thing in (least, most):
                if name not in ("least", "most"):
                    self.assertTrue(need_rules(with_rules(**{name: thing})))

    def test_most_less_than_least(self):
        self.wrong(3, with_rules(most=4))
        self.assertTrue(need_rules(with_rules(most=5)))
        self.wrong(3, with_rules(least=21))

    def test_the_first_wrong_one_counts(self):
        self.wrong(0, (5, 41, 0, 0, -1, 0, -1, -1, -1))
        self.wrong(2, (4, 40, 0, 0, -1, 0, -1, -1, -1))
        self.wrong(6, RULES[:6] + (None, None, None))


class IsPlan(Case):
    def test_a_plan(self):
        self.assertIs(is_plan(SPOKEN, RULES, PLAN), True)
        self.assertTrue(plan_holds(SPOKEN, RULES, PLAN))
        self.assertIs(is_plan(spoken=SPOKEN, rules=RULES, thing=PLAN), True)

    def broken(self, spoken, rules, thing=PLAN):
        """The plan is none with these; the clauses by hand say so too."""
        self.assertFalse(plan_holds(spoken, rules, thing))
        self.assertIs(is_plan(spoken, rules, thing), False)

    def holds(self, spoken, rules, thing=PLAN):
        self.assertTrue(plan_holds(spoken, rules, thing))
        self.assertIs(is_plan(spoken, rules, thing), True)

    def test_each_clause_broken_alone(self):
        self.broken(with_word(2, holds=1), RULES)
        self.broken(SPOKEN, with_rules(rows=1))
        self.broken(SPOKEN, with_rules(columns=3))
        self.holds(SPOKEN, with_rules(columns=4))
        self.broken(SPOKEN, with_rules(least=6))
        self.broken(SPOKEN, with_rules(most=10))
        self.holds(SPOKEN, with_rules(most=11))
        self.broken(SPOKEN, with_rules(frames=4))
        self.broken(SPOKEN, with_rules(letters=1))
        self.broken(SPOKEN, with_rules(early=3))
        self.broken(SPOKEN, with_rules(late=0))
        self.holds(SPOKEN, with_rules(late=1))
        self.broken(with_word(3, end=34), RULES)
        self.broken(with_word(0, end=23), RULES)
        self.holds(with_word(0, end=22), RULES)
        self.broken(SPOKEN, with_rules(gap=7))
        self.holds(SPOKEN, with_rules(gap=6))

    def test_signs_between_two_words_count(self):
        # "ab cd e" has seven signs: 11 frames at 7 letters in 11 frames just do.
        self.holds(SPOKEN, with_rules(letters=7, frames=11))
        self.broken(SPOKEN, with_rules(letters=7, frames=12))

    def test_counts_are_all_words(self):
        for thing in ((), PLAN[:1], PLAN + ((1, 60, 70),), ((2, 11, 22), (1, 28, 33)), ((4, 11, 22), (0, 28, 33)),
                      ((5, 11, 33),), ((-1, 11, 22), (5, 28, 33)), ((3, 11, 22), (2, 28, 33))):
            self.assertIs(is_plan(SPOKEN, RULES, thing), False)

    def test_frames_begin_at_zero(self):
        spoken = (("a", 0, 0, 0),)
        rules = (1, 1, 1, 9, 0, 1, 0, 9, 0)
        self.assertTrue(is_plan(spoken, rules, ((1, 0, 1),)))
        self.assertFalse(is_plan(spoken, rules, ((1, -1, 1),)))

    def test_values_of_any_kind(self):
        things = [list(PLAN), (list(PLAN[0]), PLAN[1]), ((3, 11), (1, 28, 33)), ((3, 11, 22, 0), (1, 28, 33)),
                  ((3, 11, 22), (True, 28, 33)), ((3, 11.0, 22), (1, 28, 33)), ((3, 11, "22"), (1, 28, 33)),
                  ((3, None, 22), (1, 28, 33)), ((3, 11, 22), None), (3, 11, 22), ((3, 11, 10 ** 999), (1, 28, 33)),
                  ((10 ** 999, 11, 22),), ((3, 11, 22), (1, 28, (33,))), ("abc", "def")]
        for thing in things + list(ODD_THINGS):
            self.assertIs(is_plan(SPOKEN, RULES, thing), False)
        self.assertFalse(is_plan((("a", 0, 0, 0),), (1, 1, 1, 1, 0, 1, 0, 0, 0), ((1, False, True),)))

    def test_random_triples(self):
        chance = chance_of(31)
        found = 0
        for _ in range(1500):
            spoken = some_spoken(chance, 3)
            rules = some_rules(chance)
            counts = chance.choice(counts_of(len(spoken)))
            thing = tuple((count, start, start + chance.randint(1, 6)) for count, start in
                          zip(counts, sorted(chance.choices(range(12), k=len(counts)))))
            self.assertEqual(is_plan(spoken, rules, thing), plan_holds(spoken, rules, thing))
            found += is_plan(spoken, rules, thing)
        self.assertGreater(found, 50)


class LeastEnds(Case):
    def test_against_all_ways(self):
        chance = chance_of(4)
        with_plan = 0
        for _ in range(300):
            spoken = some_spoken(chance)
            rules = some_rules(chance)
            ends = least_ends_by_hand(spoken, rules)
            self.assertEqual(least_ends(spoken, rules), ends)
            found = plan(spoken, rules)
            word, told = plan_paper(spoken, rules)
            self.assertEqual(check_plan(spoken, rules, (word, told)), word)
            if ends[-1] is None:
                self.assertIsNone(found)
                self.assertEqual(word, "ends")
                self.bounds_hold(spoken, rules, told)
            else:
                with_plan += 1
                self.assertTrue(plan_holds(spoken, rules, found))
                self.assertEqual(found[-1][2], ends[-1])
                self.assertEqual(word, "plan")
                self.assertTrue(plan_holds(spoken, rules, told))
            self.assertEqual(plan(spoken, rules), found)
        self.assertTrue(60 < with_plan < 240, with_plan)

    def bounds_hold(self, spoken, rules, bounds):
        table, there = rows_of_bounds(bounds)
        self.assertIsNone(bounds[-1])
        self.assertTrue(bounds_hold_by_hand(spoken, rules, {0: None, **there}, table))

    def test_the_example(self):
        self.assertEqual(least_ends(SPOKEN, RULES), (12, None, 20, 33))
        self.assertEqual(plan(SPOKEN, RULES)[-1][2], 33)
        self.assertEqual(least_ends(spoken=SPOKEN, rules=RULES), (12, None, 20, 33))
        self.assertEqual(plan(rules=RULES, spoken=SPOKEN), plan(SPOKEN, RULES))
        self.assertEqual(plan_paper(spoken=SPOKEN, rules=RULES)[0], "plan")

    def test_a_cue_may_begin_later_to_be_no_longer_than_most(self):
        spoken = (("a", 0, 0, 9),)
        self.assertEqual(plan(spoken, (1, 1, 1, 4, 0, 1, 0, 0, 5)), ((1, 5, 9),))
        self.assertIsNone(plan(spoken, (1, 1, 1, 4, 0, 1, 0, 0, 4)))

    def test_sixty_words(self):
        begun = time.monotonic()
        spoken = tuple(("word", 0, 5 * number, 5 * number + 4) for number in range(60))
        rules = (2, 20, 5, 50, 1, 1, 1, 40, 10)
        found = plan(spoken, rules)
        self.assertTrue(is_plan(spoken, rules, found))
        self.assertEqual(least_ends(spoken, rules)[-1], found[-1][2])
        self.assertEqual(check_plan(spoken, rules, plan_paper(spoken, rules)), "plan")
        late = least_late(spoken, rules)
        self.assertIsNotNone(plan(spoken, rules[:8] + (late,)))
        crowded = tuple(("w" * 40, 0, 0, 0) for _ in range(60))
        rules = (4, 40, 1, GREAT, GREAT, 1, GREAT // 200, 0, GREAT)
        self.assertEqual(check_plan(crowded, rules, plan_paper(crowded, rules)), "ends")
        self.assertGreater(least_late(crowded, rules), GREAT)
        self.assertLess(time.monotonic() - begun, 30)

    def test_refusals(self):
        for call in (least_ends, plan, plan_paper, least_late):
            self.wants_spoken_and_rules(call, SPOKEN, RULES)
        for call in (is_plan, check_plan, plan_file):
            self.wants_spoken_and_rules(call, SPOKEN, RULES, PLAN)


class CheckPlan(Case):
    NO_PLAN = (2, 6, 5, 20, 2, 2, 3, 4, 0)

    def test_no_paper(self):
        plan_told = ("plan", PLAN)
        things = [list(plan_told), ("plan",), plan_told + (1,), ("plans", PLAN), ("", PLAN), (None, PLAN), (0, PLAN),
                  (("plan",), PLAN), (["plan"], PLAN), (b"plan", PLAN), PLAN, (True, PLAN), (Equal(), PLAN)]
        for thing in things + list(ODD_THINGS):
            self.bad_paper("form", check_plan, SPOKEN, RULES, thing)
        self.assertEqual(check_plan(spoken=SPOKEN, rules=RULES, paper=plan_told), "plan")

    def test_plans(self):
        things = [((3, 11, 21), PLAN[1]), ((3, 10, 22), PLAN[1]), (PLAN[0], (1, 34, 39)), PLAN[:1], list(PLAN)]
        for thing in things + list(ODD_THINGS):
            self.bad_paper("plan", check_plan, SPOKEN, RULES, ("plan", thing))
        self.bad_paper("ends", check_plan, SPOKEN, RULES, ("ends", PLAN))
        self.bad_paper("plan", check_plan, SPOKEN, self.NO_PLAN, ("plan", PLAN))

    def test_ends_by_hand(self):
        spoken, rules = SPOKEN, self.NO_PLAN
        # "ab cd e" cannot begin before 11, nor later than 10; "cd e" not before 12 + 2, nor later than 12.
        self.assertEqual(least_ends(spoken, rules), (12, None, None, None))
        self.assertEqual(check_plan(spoken, rules, ("ends", (12, None, None, None))), "ends")
        # A lesser bound is let by as long as nothing can follow it: behind 10 "cd e" can.
        self.assertEqual(check_plan(spoken, rules, ("ends", (11, None, None, None))), "ends")
        self.bad_paper("ends", check_plan, spoken, rules, ("ends", (10, None, None, None)))
        self.bad_paper("ends", check_plan, spoken, rules, ("ends", (13, None, None, None)))
        self.bad_paper("ends", check_plan, spoken, rules, ("ends", (None, None, None, None)))
        # A bound that nothing asks for is let by, if nothing follows it.
        self.assertEqual(check_plan(spoken, rules, ("ends", (12, None, 40, None))), "ends")
        self.bad_paper("ends", check_plan, spoken, rules, ("ends", (12, None, 22, None)))
        self.bad_paper("ends", check_plan, spoken, rules, ("ends", (-10 ** 999, None, 10 ** 999, None)))
        for thing in [(12, None, None), (12, None, None, None, None), (), [12, None, None, None], None,
                      (12.0, None, None, None), ("12", None, None, None), (12, None, None, 99), (12, None, None, False),
                      (12, True, None, None), (12, (), None, None)]:
            self.bad_paper("ends", check_plan, spoken, rules, ("ends", thing))

    def test_bent_in_one_place(self):
        chance = chance_of(44)
        words = {"plan": [0, 0], "ends": [0, 0]}
        for _ in range(150):
            spoken = some_spoken(chance, 4)
            rules = some_rules(chance)
            word, told = plan_paper(spoken, rules)
            for bent in self.bends(word, told):
                holds = self.by_hand(spoken, rules, word, bent)
                words[word][holds] += 1
                if holds:
                    self.assertEqual(check_plan(spoken, rules, (word, bent)), word)
                else:
                    self.bad_paper(word, check_plan, spoken, rules, (word, bent))
        self.assertGreater(min(words["plan"] + words["ends"]), 20)

    def bends(self, word, told):
        for number, thing in enumerate(told):
            if word == "plan":
                changes = [thing[:k] + (thing[k] + d,) + thing[k + 1:] for k in range(3) for d in (-1, 1)]
            elif thing is None:
                changes = [0, 3, 40]
            else:
                changes = [None, thing - 1, thing - 3, thing + 1, -50]
            for change in changes:
                yield told[:number] + (change,) + told[number + 1:]
        yield told[:-1]
        yield told + told[-1:]

    def by_hand(self, spoken, rules, word, told):
        if word == "plan":
            counts = tuple(cue[0] for cue in told)
            return counts in counts_of(len(spoken)) and plan_holds(spoken, rules, told)
        if len(told) != len(spoken) or told[-1] is not None:
            return False
        table, there = rows_of_bounds(told)
        return bounds_hold_by_hand(spoken, rules, {0: None, **there}, table)


class LeastLate(Case):
    def has_plan(self, spoken, rules, late):
        return any(least_end_of(spoken, rules[:8] + (late,), counts) is not None for counts in counts_of(len(spoken)))

    def test_against_all_lates(self):
        chance = chance_of(45)
        nones = above = 0
        for _ in range(150):
            spoken = some_spoken(chance, 4)
            rules = some_rules(chance)
            late = least_late(spoken, rules)
            if late is None:
                # What stands in the way of a plan with so great a LATE does so with any.
                self.assertFalse(self.has_plan(spoken, rules, 40))
            else:
                self.assertEqual([n for n in range(late + 1) if self.has_plan(spoken, rules, n)], [late])
            nones += late is None
            above += late is not None and late > 0
        self.assertGreater(nones, 5)
        self.assertGreater(above, 30)

    def test_however_great(self):
        # Two cues of MOST frames, both words spoken at 0: the second one begins GREAT late, and the gap later.
        spoken = (("a" * 40, 0, 0, 0), ("a" * 40, 0, 0, 0), ("a" * 40, 0, 0, 0))
        rules = (1, 40, GREAT, GREAT, GREAT, 1, 0, 0, 0)
        self.assertEqual(least_late(spoken, rules), 4 * GREAT)
        self.assertEqual(least_late(spoken, rules[:8] + (GREAT,)), 4 * GREAT)
        self.assertEqual(least_late(spoken=spoken, rules=(3,) + rules[1:]), 0)

    def test_none_with_any(self):
        self.assertIsNone(least_late((("aa", 0, 0, 0),), (1, 1, 1, 9, 0, 1, 0, 0, 0)))
        self.assertIsNone(least_late((("aa", 0, 0, 0),), (1, 2, 1, 9, 0, 1, 5, 0, 0)))
        self.assertEqual(least_late((("aa", 0, 0, 0),), (1, 2, 1, 9, 0, 2, 9, 0, 0)), 0)
        self.assertIsNone(least_late((("a", 1, 0, 0), ("a", 0, 0, 0)), (1, 2, 1, 9, 0, 1, 0, 0, 0)))


class PlanFile(Case):
    def test_the_file_of_a_plan(self):
        file = plan_file(SPOKEN, RULES, PLAN)
        self.assertEqual(file, ((11, 22, ("ab", "cd e")), (28, 33, ("fgh",))))
        self.assertEqual(plan_file(spoken=SPOKEN, rules=RULES, thing=PLAN), file)

    def test_the_best_breaking_in_rows_and_columns(self):
        # With six columns (3, 1) comes behind (2, 2), whose greatest width is less.
        spoken = tuple((word, 0, 0, 0) for word in ("a", "bb", "c", "dd"))
        rules = (2, 6, 1, 9, 0, 1, 0, 0, 0)
        self.assertEqual(plan_file(spoken, rules, ((4, 0, 5),)), ((0, 5, ("a bb", "c dd")),))
        self.assertEqual(plan_file(spoken, (2, 9) + rules[2:], ((4, 0, 5),)), ((0, 5, ("a bb c dd",)),))

    def test_random_plans(self):
        chance = chance_of(11)
        done = 0
        while done < 60:
            spoken = some_spoken(chance)
            rules = some_rules(chance)
            found = plan(spoken, rules)
            if found is not None:
                done += 1
                first = 0
                cues = []
                for count, start, end in found:
                    words = tuple(word[:2] for word in spoken[first:first + count])
                    self.assertTrue(breakings_by_hand(words, rules[:2]))
                    cues.append((start, end, lines_of(words, best(words, rules[:2]))))
                    first += count
                self.assertEqual(plan_file(spoken, rules, found), tuple(cues))

    def test_no_plan(self):
        for thing in [PLAN[:1], list(PLAN), ((3, 11, 21), PLAN[1]), ()] + list(ODD_THINGS):
            self.assertRaises(OutOfPlace, plan_file, SPOKEN, RULES, thing)
