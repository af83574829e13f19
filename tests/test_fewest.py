"""[4]: FEWEST cues, the paper on them, and how many counts have a plan."""

import time

from captionhouse.errors import BadRules, BadSpoken, Nothing, TooGreat
from captionhouse.fewest import check_fewest, fewest_cues, fewest_paper, many_cuts
from captionhouse.plans import is_plan, least_ends, plan
from tests.brute import (bounds_hold_by_hand, chance_of, counts_of, fewest_by_hand, least_end_of, plan_holds,
                         plans_by_hand, rows_of_bounds, some_rules, some_spoken)
from tests.helpers import ODD_THINGS, Case

# The fewest cues are two here: "ab cd e" and "fgh".
SPOKEN = (("ab", 0, 10, 12), ("cd", 0, 12, 15), ("e", 0, 15, 18), ("fgh", 0, 30, 33))
RULES = (2, 6, 5, 20, 2, 2, 3, 4, 3)
NO_PLAN = (2, 6, 5, 20, 2, 2, 3, 0, 0)


def tables_hold_by_hand(spoken, rules, many_cues, tables):
    """Whether TABLES are as told of BOUNDS of 1, 2, .. less than many_cues cues."""
    if not isinstance(tables, tuple) or len(tables) != many_cues - 1:
        return False
    ahead = {0: None}
    for bounds in tables:
        if not isinstance(bounds, tuple) or len(bounds) != len(spoken) or bounds[-1] is not None:
            return False
        table, there = rows_of_bounds(bounds)
        if not bounds_hold_by_hand(spoken, rules, ahead, table):
            return False
        ahead = there
    return True


def some_case(chance, most_words=5):
    """SPOKEN and RULES with narrow cues, so that it often takes several."""
    rules = some_rules(chance)
    return some_spoken(chance, most_words), (1,) + rules[1:8] + (rules[8] + 3,)


class AgainstAll(Case):
    def test_few_words(self):
        chance = chance_of(50)
        nones = 0
        fewest = []
        for _ in range(500):
            spoken, rules = some_case(chance)
            number = fewest_by_hand(spoken, rules)
            self.assertEqual(fewest_cues(spoken, rules), number)
            self.assertEqual(number is None, plan(spoken, rules) is None)
            if number is None:
                nones += 1
                self.assertRaises(Nothing, fewest_paper, spoken, rules)
            else:
                fewest.append(number)
                paper = fewest_paper(spoken, rules)
                self.assertEqual(len(paper), 2)
                self.assertEqual(len(paper[0]), number)
                self.assertTrue(plan_holds(spoken, rules, paper[0]))
                self.assertTrue(tables_hold_by_hand(spoken, rules, number, paper[1]))
                self.assertEqual(check_fewest(spoken, rules, paper), number)
                self.assertEqual(fewest_paper(spoken, rules), paper)
        self.assertGreater(nones, 40)
        for number in (1, 2, 3, 4):
            self.assertGreater(fewest.count(number), 5)

    def test_many_cuts(self):
        chance = chance_of(51)
        found = []
        for _ in range(200):
            spoken, rules = some_case(chance)
            many = len([counts for counts in counts_of(len(spoken))
                        if least_end_of(spoken, rules, counts) is not None])
            self.assertEqual(many_cuts(spoken, rules), many)
            found.append(many)
        self.assertGreater(found.count(0), 20)
        self.assertGreater(len([many for many in found if many > 2]), 20)

    def test_tables_bent_in_one_place(self):
        chance = chance_of(52)
        holding = [0, 0]
        for _ in range(120):
            spoken, rules = some_case(chance, 4)
            if fewest_cues(spoken, rules) is not None:
                cues, tables = fewest_paper(spoken, rules)
                for bent in self.bends(tables):
                    holds = tables_hold_by_hand(spoken, rules, len(cues), bent)
                    holding[holds] += 1
                    if holds:
                        self.assertEqual(check_fewest(spoken, rules, (cues, bent)), len(cues))
                    else:
                        self.bad_paper("tables", check_fewest, spoken, rules, (cues, bent))
        self.assertGreater(min(holding), 50)

    def bends(self, tables):
        for at, bounds in enumerate(tables):
            for number, bound in enumerate(bounds):
                for change in ([0, 3, 40] if bound is None else [None, bound - 1, bound - 3, bound + 1, -50]):
                    yield tables[:at] + (bounds[:number] + (change,) + bounds[number + 1:],) + tables[at + 1:]
            yield tables[:at] + tables[at + 1:]
            yield tables[:at] + (bounds[:-1],) + tables[at + 1:]
            yield tables[:at] + (bounds + (None,),) + tables[at + 1:]
        yield tables + tables[-1:] if tables else ((None,),)


class Papers(Case):
    def test_the_told_paper(self):
        self.assertEqual(fewest_cues(SPOKEN, RULES), 2)
        paper = fewest_paper(SPOKEN, RULES)
        self.assertEqual(paper[1], ((12, 16, 22, None),))
        self.assertEqual(check_fewest(SPOKEN, RULES, paper), 2)
        self.assertEqual(check_fewest(spoken=SPOKEN, rules=RULES, paper=paper), 2)
        self.assertEqual(check_fewest(SPOKEN, RULES, (((3, 13, 24), (1, 33, 53)), paper[1])), 2)

    def test_one_cue_needs_no_tables(self):
        paper = fewest_paper(SPOKEN[:1], RULES)
        self.assertEqual(paper[1], ())
        self.assertEqual(check_fewest(SPOKEN[:1], RULES, paper), 1)
        self.bad_paper("tables", check_fewest, SPOKEN[:1], RULES, (paper[0], ((None,),)))

    def test_no_pair(self):
        cues, tables = fewest_paper(SPOKEN, RULES)
        for thing in [[cues, tables], (cues,), (cues, tables, 0), (), cues + (1,)] + list(ODD_THINGS):
            self.bad_paper("form", check_fewest, SPOKEN, RULES, thing)

    def test_no_plan_in_it(self):
        _, tables = fewest_paper(SPOKEN, RULES)
        things = [((3, 11, 21), (1, 28, 33)), ((3, 11, 22),), [(3, 11, 22), (1, 28, 33)], ()]
        for thing in things + list(ODD_THINGS):
            self.bad_paper("plan", check_fewest, SPOKEN, RULES, (thing, tables))
            self.bad_paper("plan", check_fewest, SPOKEN, RULES, (thing, None))
        self.bad_paper("plan", check_fewest, SPOKEN, NO_PLAN, (((3, 11, 22), (1, 28, 33)), tables))

    def test_more_cues(self):
        spoken, rules = SPOKEN, RULES[:8] + (5,)
        longer = [plan for counts in ((1, 2, 1), (2, 1, 1)) for plan in plans_by_hand(spoken, rules, counts)[:1]]
        self.assertTrue(longer)
        told = fewest_paper(spoken, rules)
        self.assertEqual(len(told[0]), 2)
        for more in longer:
            for given in (told[1], told[1] * 2, told[1] + ((None, None, 20, None),), told[1] + ((None,) * 4,),
                          told[1] + (least_ends(spoken, rules),)):
                self.bad_paper("tables", check_fewest, spoken, rules, (more, given))

    def test_tables(self):
        cues, tables = fewest_paper(SPOKEN, RULES)
        things = [(), tables * 2, list(tables), tables[0], (list(tables[0]),), ((12, 16, 22),), ((12, 16, 22, 99),),
                  ((12, 16, 22, None, None),), ((12, 16, None, None),), ((None, 16, 22, None),), ((13, 16, 22, None),),
                  ((12, 16, 23, None),), ((12, 16, 22.0, None),), ((12, 16, True, None),), ((12, 16, "22", None),),
                  (None,)]
        for thing in things + list(ODD_THINGS):
            self.bad_paper("tables", check_fewest, SPOKEN, RULES, (cues, thing))
        # A table of one cue is not followed by a second one, since FEWEST is 2: lesser bounds are let by.
        self.assertEqual(check_fewest(SPOKEN, RULES, (cues, ((12, 16, -10 ** 999, None),))), 2)

    def test_a_table_may_be_let_by_only_if_the_next_one_is_as_little(self):
        spoken = (("ab", 0, 0, 1), ("cd", 0, 5, 6), ("ef", 0, 9, 10))
        rules = (1, 2, 1, 9, 0, 1, 0, 0, 0)
        cues, tables = fewest_paper(spoken, rules)
        self.assertEqual(tables, ((1, None, None), (None, 6, None)))
        self.assertEqual(check_fewest(spoken, rules, (cues, ((0, None, None), (None, 6, None)))), 3)
        self.assertEqual(check_fewest(spoken, rules, (cues, tables)), 3)
        self.bad_paper("tables", check_fewest, spoken, rules, (cues, ((2, None, None), (None, 6, None))))
        self.bad_paper("tables", check_fewest, spoken, rules, (cues, ((1, None, None), (None, 7, None))))
        self.bad_paper("tables", check_fewest, spoken, rules, (cues, ((1, None, None), (None, None, None))))
        # Bounds that no cue asks for, but from which one could go on, break what is behind them.
        self.bad_paper("tables", check_fewest, spoken, rules, (cues, ((1, 6, None), (None, 6, None))))
        self.assertEqual(check_fewest(spoken, rules, (cues, ((1, 90, None), (None, 6, None)))), 3)


class Sizes(Case):
    def test_many_cuts_of_sixteen_words(self):
        rules = (4, 40, 1, 10 ** 9, 0, 1, 0, 10 ** 9, 10 ** 9)
        for many in (1, 2, 15, 16):
            spoken = (("a", 0, 0, 0),) * many
            self.assertEqual(many_cuts(spoken, rules), pow(2, many - 1))
        # Cues of one or two words alone: as many ways as the numbers of Fibonacci tell.
        self.assertEqual(many_cuts((("a", 0, 0, 0),) * 16, (1, 3) + rules[2:]), 1597)
        begun = time.monotonic()
        spoken = tuple(("a" * (number + 1), 0, 0, number * number) for number in range(16))
        self.assertEqual(many_cuts(spoken, (4, 40, 1, 10 ** 9, 3, 1, 7, 10 ** 9, 10 ** 9)),
                         many_cuts(spoken, (4, 40, 1, 10 ** 9, 0, 1, 0, 10 ** 9, 10 ** 9)))
        self.assertLess(time.monotonic() - begun, 20)

    def test_seventeen_words_are_too_many(self):
        spoken = (("a", 0, 0, 0),) * 17
        self.refused(TooGreat, "most", 16, many_cuts, spoken, RULES)
        self.refused(TooGreat, "most", 16, many_cuts, (("a", 0, 0, 0),) * 60, RULES)
        self.refused(BadRules, "number", 0, many_cuts, spoken, (0,) + RULES[1:])
        self.refused(BadSpoken, "number", 17, many_cuts, spoken + (("", 0, 0, 0),), RULES)
        self.refused(BadSpoken, "number", None, many_cuts, spoken * 4, RULES)

    def test_sixty_words(self):
        begun = time.monotonic()
        spoken = tuple(("word", 0, 5 * number, 5 * number + 4) for number in range(60))
        for rules, number in (((2, 20, 1, 50, 1, 1, 0, 40, 10), 8), ((1, 4, 1, 50, 1, 1, 0, 40, 10), 60)):
            self.assertEqual(fewest_cues(spoken, rules), number)
            paper = fewest_paper(spoken, rules)
            self.assertTrue(is_plan(spoken, rules, paper[0]))
            self.assertEqual(len(paper[0]), number)
            self.assertEqual(check_fewest(spoken, rules, paper), number)
        self.assertLess(time.monotonic() - begun, 30)


class Refusals(Case):
    def test_spoken_and_rules_come_first(self):
        for call in (fewest_cues, fewest_paper, many_cuts):
            self.wants_spoken_and_rules(call, SPOKEN, RULES)
        self.wants_spoken_and_rules(check_fewest, SPOKEN, RULES, fewest_paper(SPOKEN, RULES))

    def test_without_a_plan(self):
        self.assertIsNone(fewest_cues(SPOKEN, NO_PLAN))
        self.assertRaises(Nothing, fewest_paper, SPOKEN, NO_PLAN)
        self.assertEqual(many_cuts(SPOKEN, NO_PLAN), 0)

    def test_names_of_arguments(self):
        self.assertEqual(fewest_cues(rules=RULES, spoken=SPOKEN), 2)
        self.assertEqual(fewest_paper(rules=RULES, spoken=SPOKEN), fewest_paper(SPOKEN, RULES))
        self.assertEqual(many_cuts(rules=RULES, spoken=SPOKEN), many_cuts(SPOKEN, RULES))
