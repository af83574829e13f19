"""[4] second paragraph: counts, the earliest and the latest plan, bars."""

import time
from itertools import product

from captionhouse.counts import are_possible, bar, check_bar, earliest, late_of, latest
from captionhouse.plans import is_plan, least_late, plan
from tests.brute import (breakings_by_hand, chance_of, counts_of, cues_by_hand, least_end_of, parts_of, plan_holds,
                         plans_by_hand, some_rules, some_spoken)
from tests.helpers import ODD_THINGS, Case, Equal

SPOKEN = (("ab", 0, 10, 12), ("cd", 1, 12, 15), ("e", 0, 15, 18), ("fgh", 0, 30, 33))
RULES = (2, 6, 5, 20, 2, 2, 3, 4, 3)
OTHERS = (earliest, latest, bar, late_of)
GREAT = 10 ** 9


def least_time_by_hand(words, rules):
    signs = sum(len(word[0]) for word in words) + len(words) - 1
    time_needed = rules[2]
    while time_needed * rules[5] < rules[6] * signs:
        time_needed += 1
    return time_needed


def possible_by_hand(spoken, rules, counts):
    return all(part[-1][1] == 0 and breakings_by_hand(part, rules[:2]) and least_time_by_hand(part, rules) <= rules[3]
               for part in parts_of(spoken, counts))


def feasible_by_hand(spoken, rules, counts):
    """For each cue all (FROM, TO) that it has in some PLAN: those that go on from the ones ahead and behind."""
    gap = rules[4]
    cues = []
    first = 0
    for count in counts:
        pairs = cues_by_hand(spoken, rules, first, count, None)
        if cues:
            pairs = [pair for pair in pairs if any(end + gap <= pair[0] for _, end in cues[-1])]
        cues.append(pairs)
        first += count
    for number in reversed(range(len(counts) - 1)):
        cues[number] = [pair for pair in cues[number] if any(pair[1] + gap <= start for start, _ in cues[number + 1])]
    return cues


def bars_by_hand(spoken, rules, counts):
    _, _, _, most, gap, _, _, early, late = rules
    parts = parts_of(spoken, counts)
    times = [least_time_by_hand(part, rules) for part in parts]
    ends = [max(word[3] for word in part) for part in parts]
    bars = []
    for i, part in enumerate(parts):
        left = max(0, part[-1][2] - early, ends[i] - most)
        for j in range(i, len(parts)):
            right = parts[j][0][2] + late
            if left + sum(times[k] + gap for k in range(i, j)) > right:
                bars.append((i, j, "left"))
            if i < j and ends[i] + gap + sum(times[k] + gap for k in range(i + 1, j)) > right:
                bars.append((i, j, "end"))
    return sorted(bars)


class AgainstAll(Case):
    def test_few_words(self):
        chance = chance_of(40)
        seen = {"impossible": 0, "plan": 0, "bar": 0, "left": 0, "end": 0, "late": 0}
        for _ in range(250):
            spoken = some_spoken(chance)
            rules = some_rules(chance)
            for counts in counts_of(len(spoken)):
                if possible_by_hand(spoken, rules, counts):
                    self.assertIs(are_possible(spoken, rules, counts), True)
                    self.look(spoken, rules, counts, seen)
                else:
                    seen["impossible"] += 1
                    self.assertIs(are_possible(spoken, rules, counts), False)
                    for call in OTHERS:
                        self.out_of_place(call, spoken, rules, counts)
                    self.out_of_place(check_bar, spoken, rules, counts, (0, 0, "left"))
        self.assertGreater(min(seen.values()), 30, seen)

    def look(self, spoken, rules, counts, seen):
        cues = feasible_by_hand(spoken, rules, counts)
        bars = bars_by_hand(spoken, rules, counts)
        if all(cues):
            seen["plan"] += 1
            first = tuple((count, min(a for a, _ in c), min(b for _, b in c)) for count, c in zip(counts, cues))
            last = tuple((count, max(a for a, _ in c), max(b for _, b in c)) for count, c in zip(counts, cues))
            self.assertEqual(earliest(spoken, rules, counts), first)
            self.assertEqual(latest(spoken, rules, counts), last)
            self.assertTrue(plan_holds(spoken, rules, first) and plan_holds(spoken, rules, last))
            self.assertIsNone(bar(spoken, rules, counts))
            self.assertEqual(bars, [])
        else:
            seen["bar"] += 1
            self.assertIsNone(earliest(spoken, rules, counts))
            self.assertIsNone(latest(spoken, rules, counts))
            self.assertEqual(bar(spoken, rules, counts), bars[0])
            seen[bars[0][2]] += 1
        size = len(counts)
        for thing in product(range(-1, size + 1), range(-1, size + 1), ("left", "end")):
            self.assertIs(check_bar(spoken, rules, counts, thing), thing in bars)
        self.look_at_late(spoken, rules, counts, seen)

    def look_at_late(self, spoken, rules, counts, seen):
        late = late_of(spoken, rules, counts)
        self.assertGreaterEqual(late, 0)
        self.assertIsNotNone(least_end_of(spoken, rules[:8] + (late,), counts))
        if late > 0:
            seen["late"] += 1
            self.assertIsNone(least_end_of(spoken, rules[:8] + (late - 1,), counts))

    def test_all_plans_one_by_one(self):
        chance = chance_of(41)
        done = 0
        while done < 40:
            spoken = some_spoken(chance, 3)
            rules = (2, 9, 1, 3, chance.randint(0, 1), 1, 0, chance.randint(0, 2), chance.randint(0, 2))
            for counts in counts_of(len(spoken)):
                plans = plans_by_hand(spoken, rules, counts)
                if plans:
                    done += 1
                    cues = list(zip(*plans))
                    for k in range(len(counts)):
                        for at in (1, 2):
                            self.assertEqual(earliest(spoken, rules, counts)[k][at], min(cue[at] for cue in cues[k]))
                            self.assertEqual(latest(spoken, rules, counts)[k][at], max(cue[at] for cue in cues[k]))

    def test_least_late_is_the_least_of_all(self):
        chance = chance_of(42)
        for _ in range(150):
            spoken = some_spoken(chance)
            rules = some_rules(chance)
            lates = [late_of(spoken, rules, counts) for counts in counts_of(len(spoken))
                     if are_possible(spoken, rules, counts)]
            self.assertEqual(least_late(spoken, rules), min(lates, default=None))

    def test_there_is_a_plan_if_some_counts_have_one(self):
        chance = chance_of(43)
        for _ in range(150):
            spoken = some_spoken(chance)
            rules = some_rules(chance)
            free = [counts for counts in counts_of(len(spoken)) if are_possible(spoken, rules, counts)
                    and bar(spoken, rules, counts) is None]
            self.assertEqual(plan(spoken, rules) is not None, bool(free))


class ByHand(Case):
    def test_an_example(self):
        self.assertTrue(are_possible(SPOKEN, RULES, (3, 1)))
        self.assertEqual(earliest(SPOKEN, RULES, (3, 1)), ((3, 11, 22), (1, 26, 33)))
        self.assertEqual(latest(SPOKEN, RULES, (3, 1)), ((3, 13, 31), (1, 33, 53)))
        self.assertIsNone(bar(SPOKEN, RULES, (3, 1)))
        self.assertEqual(late_of(SPOKEN, RULES, (3, 1)), 1)
        self.assertFalse(are_possible(SPOKEN, RULES, (2, 2)))

    def test_the_kinds_of_bars(self):
        # FROM of "b" is wanted at 0 + 5; the END of "a" is at 3, and with the GAP at 4.
        spoken = (("a", 0, 0, 3), ("b", 0, 1, 1))
        rules = (1, 1, 4, 9, 1, 1, 0, 0, 3)
        self.assertEqual(bar(spoken, rules, (1, 1)), (0, 1, "left"))
        self.assertFalse(check_bar(spoken, rules, (1, 1), (0, 1, "end")))
        # With both kinds "end" is the first one.
        self.assertEqual(bar(spoken, rules[:8] + (2,), (1, 1)), (0, 1, "end"))
        self.assertTrue(check_bar(spoken, rules[:8] + (2,), (1, 1), (0, 1, "left")))
        self.assertIsNone(bar(spoken, rules[:8] + (4,), (1, 1)))
        # A cue by itself: it must begin 10 - 4 frames late to be no longer than MOST.
        self.assertEqual(bar((("a", 0, 0, 10),), (1, 1, 4, 4, 0, 1, 0, 0, 5), (1,)), (0, 0, "left"))
        self.assertIsNone(bar((("a", 0, 0, 10),), (1, 1, 4, 4, 0, 1, 0, 0, 6), (1,)))

    def test_late_of_however_great(self):
        spoken = (("a", 0, 0, 0),) * 60
        rules = (1, 1, GREAT, GREAT, GREAT, 1, 0, 0, 0)
        begun = time.monotonic()
        self.assertEqual(late_of(spoken, rules, (1,) * 60), 59 * 2 * GREAT)
        self.assertEqual(bar(spoken, rules, (1,) * 60), (0, 1, "end"))
        self.assertIsNone(earliest(spoken, rules, (1,) * 60))
        self.assertIsNone(latest(spoken, rules, (1,) * 60))
        self.assertLess(time.monotonic() - begun, 10)

    def test_sixty_words(self):
        spoken = tuple(("word", 0, 5 * number, 5 * number + 4) for number in range(60))
        rules = (2, 20, 1, 50, 1, 1, 0, 40, 10)
        for counts in ((1,) * 60, (2,) * 30, (6,) * 10):
            self.assertTrue(is_plan(spoken, rules, earliest(spoken, rules, counts)))
            self.assertTrue(is_plan(spoken, rules, latest(spoken, rules, counts)))
            self.assertIsNone(bar(spoken, rules, counts))
        self.assertFalse(are_possible(spoken, rules, (60,)))


class Refusals(Case):
    def test_what_is_no_counts(self):
        things = [(3,), (3, 2), (4, 0), (5, -1), (3, True), (3, 1.0), (3, "1"), (3, None), [3, 1], (), None, 4, "31",
                  ((3, 1),), (10 ** 999,), (3, (1,))]
        for thing in things + list(ODD_THINGS):
            for call in OTHERS + (are_possible,):
                self.out_of_place(call, SPOKEN, RULES, thing)
            self.out_of_place(check_bar, SPOKEN, RULES, thing, (0, 0, "left"))

    def test_what_is_not_possible(self):
        # The last word of a cue holds; it does not fit; it takes more than MOST.
        for rules, counts in ((RULES, (2, 2)), (RULES, (4,)), ((2, 3) + RULES[2:], (3, 1)),
                              (RULES[:3] + (10,) + RULES[4:], (3, 1))):
            self.assertIs(are_possible(SPOKEN, rules, counts), False)
            for call in OTHERS:
                self.out_of_place(call, SPOKEN, rules, counts)
            self.out_of_place(check_bar, SPOKEN, rules, counts, (0, 0, "left"))
        self.assertTrue(are_possible(SPOKEN, RULES[:3] + (11,) + RULES[4:], (3, 1)))

    def test_the_first_argument_comes_first(self):
        for call in OTHERS + (are_possible,):
            self.wants_spoken_and_rules(call, SPOKEN, RULES, (3, 1))
        self.wants_spoken_and_rules(check_bar, SPOKEN, RULES, (3, 1), (0, 0, "left"))

    def test_check_bar_of_any_value(self):
        spoken = (("a", 0, 0, 3), ("b", 0, 1, 1))
        rules = (1, 1, 4, 9, 1, 1, 0, 0, 2)
        self.assertIs(check_bar(spoken, rules, (1, 1), (0, 1, "left")), True)
        self.assertIs(check_bar(spoken=spoken, rules=rules, counts=(1, 1), thing=(0, 1, "end")), True)
        things = [[0, 1, "left"], (0, 1), (0, 1, "left", 0), (0, True, "left"), (False, 1, "left"), (0, 1.0, "left"),
                  (0, 1, "right"), (0, 1, None), (0, 1, ("left",)), (0, 1, b"left"), (0, 1, ["left"]), (0, 2, "left"),
                  (-1, 1, "left"), (0, -1, "left"), (1, 0, "left"), ("0", 1, "left"), (0, None, "left"),
                  (0, 10 ** 999, "left"), (0, 1, ""), (0, 0, "end"), (1, 1, "end"), (0, 1, Equal())]
        for thing in things + list(ODD_THINGS):
            self.assertIs(check_bar(spoken, rules, (1, 1), thing), False)

    def test_names_of_arguments(self):
        self.assertTrue(are_possible(spoken=SPOKEN, rules=RULES, counts=(3, 1)))
        for call in OTHERS:
            self.assertEqual(call(counts=(3, 1), rules=RULES, spoken=SPOKEN), call(SPOKEN, RULES, (3, 1)))
