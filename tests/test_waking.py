"""[17]: what one knows who has tuned in, streams that wake, and the papers on them."""

import time

from captionhouse.errors import BadCode, BadPaper, BadSize, OutOfPlace, TooGreat
from captionhouse.summaries import controls
from captionhouse.tuning import sure
from captionhouse.waking import check_waking, knowledge, later, waking, waking_paper
from tests.brute import chance_of
from tests.helpers import ODD_THINGS, Case, Equal
from tests.searches import (all_is_sure, first_knowledge, knowledge_by_hand, knowledge_of_states, knowledges_by_hand,
                            later_by_hand, shortest_waking)
from tests.streams import all_codes, some_codes
from tests.test_decoders import BAD_CODES, BAD_SCREENS
from tests.test_summaries import SMALL, THIRTEEN, TWELVE

IDLE = ("idle",)
CLEARS = (("clear",), ("hide",), ("put", "a"), ("swap",))
PUTS = (("at", 0, 0), ("at", 0, 1), ("at", 0, 2), ("put", "b"), ("put", "c"), ("put", "d"), ("rub",))


def some_choice(chance, screen, many, signs="ax"):
    codes = all_codes(screen, signs)
    return tuple(sorted(chance.sample(codes, min(many, len(codes)))))


def table_holds(screen, choice, table):
    """Whether a tuple of KNOWLEDGES is as [17] tells."""
    if not all(ahead < known for ahead, known in zip(table, table[1:])) or first_knowledge(screen) not in table:
        return False
    return all(not all_is_sure(screen, known) and all(later_by_hand(screen, known, code) in table for code in choice)
               for known in table)


class Knowledges(Case):
    def test_all_states_of_small_screens(self):
        chance = chance_of(170)
        for screen in ((1, 1), (1, 2), (2, 1), (1, 3)):
            for many in (0, 1, 1, 1, 2, 2, 3, 4, 5, 7, 9, 12, 20):
                codes = some_codes(chance, screen, many, "ax ")
                self.assertEqual(knowledge(screen, codes), knowledge_of_states(screen, codes))

    def test_followed_cells(self):
        chance = chance_of(171)
        for screen in SMALL + TWELVE:
            self.assertEqual(knowledge(screen, ()), first_knowledge(screen))
            self.assertEqual(tuple(control for control, _ in knowledge(screen, ())), controls(screen))
            for many in (1, 2, 3, 5, 8, 13, 30, 100):
                codes = some_codes(chance, screen, many, "ax ")
                found = knowledge(screen, codes)
                self.assertEqual(found, knowledge_by_hand(screen, codes))
                self.assertTrue(all(ahead < pair for ahead, pair in zip(found, found[1:])))
                is_sure = None not in [sign for row in sure(screen, codes) for sign in row]
                self.assertEqual(all_is_sure(screen, found), is_sure)

    def test_by_hand(self):
        self.assertEqual(knowledge((1, 1), ()), ((("hide", 0, 0), ("", "")), (("paint", 0, 0), ("", "")),
                                                 (("roll1", 0, 0), ("", ""))))
        self.assertEqual(knowledge((1, 1), (("put", "a"),)),
                         ((("hide", 0, 0), ("", "a")), (("paint", 0, 0), ("a", "")), (("roll1", 0, 0), ("a", ""))))
        self.assertEqual(knowledge((1, 1), (("put", "a"), ("swap",))),
                         ((("hide", 0, 0), ("", "a")), (("hide", 0, 0), ("a", ""))))
        self.assertEqual(knowledge(codes=(("hide",), ("put", "a"), ("swap",)), screen=(1, 1)),
                         ((("hide", 0, 0), ("a", "")),))

    def test_later(self):
        chance = chance_of(172)
        for screen in SMALL + TWELVE:
            for many in (0, 1, 2, 5, 15):
                codes = some_codes(chance, screen, many, "ax ")
                value = knowledge(screen, codes)
                for code in all_codes(screen, "a "):
                    found = later(screen, value, code)
                    self.assertEqual(found, later_by_hand(screen, value, code))
                    if many < 3:
                        self.assertEqual(found, knowledge(screen, codes + (code,)))

    def test_later_of_what_comes_of_no_codes(self):
        """Whatever has the form will do."""
        value = ((("hide", 0, 1), ("a", "", " ", "b")), (("hide", 0, 1), ("a", "b", "", "")))
        self.assertEqual(later((1, 2), value, ("rub",)), ((("hide", 0, 0), ("a", "", " ", "b")),
                                                          (("hide", 0, 0), ("a", "b", " ", ""))))
        self.assertEqual(later((1, 2), value, ("swap",)), ((("hide", 0, 1), ("", "", "a", "b")),
                                                           (("hide", 0, 1), (" ", "b", "a", ""))))
        self.assertEqual(later(code=("wipe",), value=value[1:], screen=(1, 2)),
                         ((("hide", 0, 1), (" ", " ", "", "")),))
        # Two pairs that become one.
        value = ((("hide", 0, 0), ("", "")), (("paint", 0, 0), ("", "")))
        self.assertEqual(later((1, 1), value, ("paint",)), ((("paint", 0, 0), ("", "")),))

    def test_what_is_no_knowledge(self):
        one = (("hide", 0, 0), ("", "a", "", ""))
        other = (("hide", 0, 0), ("a", "", "", ""))
        self.assertEqual(later((1, 2), (one, other), IDLE), (one, other))
        wrong = [thing for thing in ODD_THINGS] + [
            (), [one], (other, one), (one, one), (one, other, other), (one, None), (None, one), (one[0],), one,
            ((*one, 0),), (one[:1],), ([*one],), ((list(one[0]), one[1]),), ((one[0], list(one[1])),),
            ((one[0], one[1][:3]),), ((one[0], one[1] + ("",)),), ((one[0], "aaaa"),), ((one[1], one[0]),)]
        wrong += [(((*one[0][:2], column), one[1]),) for column in (2, -1, True, None, 0.0, Equal())]
        wrong += [((("hide", row, 0), one[1]),) for row in (1, -1, False, "0")]
        wrong += [(((mode, 0, 0), one[1]),) for mode in ("Hide", "roll2", "roll", "", None, 0, Equal())]
        wrong += [((one[0], ("", cell, "", "")),) for cell in (0, 1, None, True, "ab", "%", "\n", "\x7f", b"", ("",),
                                                               "\xe9", [], Equal())]
        for thing in wrong:
            self.out_of_place(later, (1, 2), thing, IDLE)
            # What is no KNOWLEDGE is told ahead of what is no CODE.
            self.out_of_place(later, (1, 2), thing, None)

    def test_what_is_no_code(self):
        value = knowledge((2, 3), ())
        for code in BAD_CODES:
            self.refused(BadCode, "place", 0, later, (2, 3), value, code)
            self.refused(BadCode, "place", 0, knowledge, (2, 3), (code,))
            self.refused(BadCode, "place", 2, knowledge, (2, 3), (IDLE, IDLE, code, None))
        for codes in (None, [], [IDLE], (IDLE,) * 2001, "idle", 0):
            self.refused(BadCode, "place", None, knowledge, (2, 3), codes)


class Waking(Case):
    def test_all_streams(self):
        """Against all STREAMS of up to four or five CODES, and all KNOWLEDGES that come."""
        chance = chance_of(173)
        counted = {}
        for screen in ((1, 1), (1, 2), (2, 1), (2, 2)):
            for _ in range(14):
                choice = some_choice(chance, screen, chance.randint(1, 4))
                most = 5 if len(choice) < 4 else 4
                expected = shortest_waking(screen, choice, most)
                found = waking(screen, choice)
                if expected is None:
                    self.assertTrue(found is None or len(found) > most)
                else:
                    self.assertEqual(len(found), expected)
                if found is not None:
                    self.assertTrue(all(code in choice for code in found))
                    self.assertTrue(all_is_sure(screen, knowledge_by_hand(screen, found)))
                key = None if found is None else len(found)
                counted[key] = counted.get(key, 0) + 1
        self.assertGreaterEqual(len(counted), 4)
        self.assertGreater(counted[None], 5)

    def test_all_knowledges(self):
        chance = chance_of(174)
        counted = {"wakes": 0, "asleep": 0}
        for screen in ((1, 1), (1, 2), (2, 1), (1, 3), (2, 2), (4, 1), (2, 3)):
            for _ in range(12):
                choice = some_choice(chance, screen, chance.randint(1, 4))
                try:
                    word, told = waking_paper(screen, choice)
                except TooGreat:
                    continue
                if word == "asleep" and len(told) > 150:
                    continue
                rows = knowledges_by_hand(screen, choice)
                if word == "wakes":
                    self.assertEqual(len(told), len(rows) - 1)
                    self.assertTrue(all_is_sure(screen, knowledge_by_hand(screen, told)))
                else:
                    self.assertEqual(told, tuple(sorted(known for row in rows for known in row)))
                self.assertEqual(check_waking(screen, choice, (word, told)), word)
                self.assertEqual(waking(screen, choice), told if word == "wakes" else None)
                counted[word] += 1
        self.assertGreater(min(counted.values()), 15)

    def test_by_hand(self):
        self.assertEqual(waking((1, 1), (("wipe",),)), (("wipe",),))
        self.assertIsNone(waking((1, 1), (IDLE,)))
        self.assertIsNone(waking((1, 1), (("put", "a"),)))
        self.assertEqual(waking((1, 1), (("paint",), ("put", "a"))), (("paint",), ("put", "a")))
        # What is swapped was cleared, and put into HIDDEN only where the MODE is sure.
        self.assertEqual(waking((4, 3), (("clear",), ("put", "a"), ("swap",))), (("clear",), ("swap",)))
        self.assertEqual(waking((1, 1), (("clear",), ("swap",))), (("clear",), ("swap",)))
        self.assertEqual(waking(choice=(("roll", 1), ("tail",)), screen=(1, 5)), (("roll", 1), ("tail",)))
        self.assertEqual(len(waking((3, 2), (("line",), ("roll", 3)))), 4)
        self.assertIsNone(waking((3, 2), (("line",), ("roll", 2))))

    def test_the_same_each_time(self):
        for choice in (CLEARS, (("line",), ("roll", 3), ("wipe",))):
            self.assertEqual(waking((3, 2), choice), waking((3, 2), choice))
            self.assertEqual(waking_paper((3, 2), choice), waking_paper((3, 2), choice))


class Papers(Case):
    def check(self, screen, choice, paper, holds):
        if holds:
            self.assertEqual(check_waking(screen, choice, paper), paper[0])
        else:
            self.bad_paper(paper[0], check_waking, screen, choice, paper)

    def test_streams(self):
        screen, choice = (1, 2), (("clear",), IDLE, ("paint",), ("swap",), ("wipe",))
        self.check(screen, choice, ("wakes", (("wipe",),)), True)
        # More codes than are needed.
        for codes in ((("wipe",), IDLE), (("clear",), ("swap",)), (IDLE, ("clear",), ("paint",), ("swap",), ("paint",)),
                      (("wipe",),) * 2000, (IDLE,) * 1998 + (("clear",), ("swap",))):
            self.check(screen, choice, ("wakes", codes), True)
        for codes in ((), (IDLE,), (("swap",),), (("clear",),), (("wipe",), ("swap",)), (("wipe",),) * 2001,
                      (("clear",), ("swap",), ("swap",)), (IDLE,) * 2000):
            self.check(screen, choice, ("wakes", codes), False)
        # Codes that are not of the choice, or no codes at all.
        for code in (("hide",), ("put", "a"), ("tail",), ("at", 0, 0)) + BAD_CODES:
            self.check(screen, choice, ("wakes", (("wipe",), code)), False)
            self.check(screen, choice, ("wakes", (code, ("wipe",))), False)
        self.check((1, 1), (("hide",), ("paint",)), ("wakes", (("wipe",),)), False)

    def test_each_bent_stream(self):
        chance = chance_of(175)
        counted = {True: 0, False: 0}
        for screen in ((1, 2), (2, 2), (1, 3)):
            for _ in range(10):
                choice = some_choice(chance, screen, 5)
                codes = None
                if screen != (2, 2) or ("wipe",) in choice:
                    codes = waking(screen, choice)
                if codes is not None:
                    bent = [codes[:place] + (code,) + codes[place + 1:] for place in range(len(codes))
                            for code in choice]
                    bent += [codes[:place] + codes[place + 1:] for place in range(len(codes))]
                    bent += [codes + (code,) for code in choice] + [(code,) + codes for code in choice]
                    for other in bent:
                        holds = all_is_sure(screen, knowledge_by_hand(screen, other))
                        self.check(screen, choice, ("wakes", other), holds)
                        counted[holds] += 1
        self.assertGreater(min(counted.values()), 30)

    def test_each_bent_table(self):
        chance = chance_of(176)
        counted = {True: 0, False: 0}
        for screen, choice in (((1, 1), (("hide",), ("put", "a"))), ((1, 2), (IDLE, ("put", "a"))),
                               ((1, 1), (("clear",), ("hide",))), ((1, 1), (IDLE,)), ((1, 2), (("put", "a"), ("rub",
                                                                                                              )))):
            word, table = waking_paper(screen, choice)
            self.assertEqual(word, "asleep")
            self.check(screen, choice, (word, table), True)
            bent = [table[:place] + table[place + 1:] for place in range(len(table))]
            bent += [table[:place] + table[place:place + 1] + table[place:] for place in range(len(table))]
            bent += [table[:place] + table[place + 1:place + 2] + table[place:place + 1] + table[place + 2:]
                     for place in range(len(table) - 1)]
            for place, known in enumerate(table):
                for _ in range(12):
                    pair = chance.randrange(len(known))
                    control, cells = known[pair]
                    cell = chance.randrange(len(cells))
                    cells = cells[:cell] + (chance.choice(["", " ", "a", "x"]),) + cells[cell + 1:]
                    other = tuple(sorted(set(known[:pair] + ((control, cells),) + known[pair + 1:])))
                    bent.append(tuple(sorted(set(table[:place] + (other,) + table[place + 1:]))))
                    bent.append(tuple(sorted(set(table + (other,)))))
                bent.append(tuple(sorted(set(table[:place] + (known[:1],) + table[place + 1:]))))
                bent.append(tuple(sorted(set(table + (known[:1],)))))
            for other in bent:
                holds = table_holds(screen, choice, other)
                self.check(screen, choice, ("asleep", other), holds)
                counted[holds] += 1
        self.assertGreater(min(counted.values()), 20)

    def test_bigger_tables(self):
        """Closed ones of more codes."""
        screen = (1, 2)
        small, great, other = (("put", "a"),), (("put", "a"), ("put", "b")), (("clear",), ("put", "a"))
        table = waking_paper(screen, great)[1]
        self.assertGreater(len(table), len(waking_paper(screen, small)[1]))
        self.check(screen, small, ("asleep", table), True)
        self.check(screen, great, ("asleep", table), True)
        self.check(screen, other, ("asleep", table), False)
        self.check(screen, great, waking_paper(screen, small), False)
        both = tuple(sorted(set(table + waking_paper(screen, other)[1])))
        self.check(screen, small, ("asleep", both), True)
        self.check(screen, great, ("asleep", both), False)

    def test_tables_with_one_that_is_sure(self):
        screen, choice = (1, 1), (IDLE,)
        first = knowledge(screen, ())
        awake = knowledge(screen, (("wipe",),))
        self.check(screen, choice, ("asleep", (first,)), True)
        self.check(screen, choice, ("asleep", tuple(sorted((first, awake)))), False)
        self.check(screen, choice, ("asleep", (awake,)), False)
        self.check(screen, choice, ("asleep", ()), False)
        # No stream brings these, but they have the form, stay as they are, and are not sure.
        for known in (((("hide", 0, 0), ("", "a")),), ((("hide", 0, 0), ("a", "a")), (("hide", 0, 0), ("b", "a")))):
            self.check(screen, choice, ("asleep", tuple(sorted((first, known)))), True)

    def test_tables_of_other_things(self):
        first = knowledge((1, 1), ())
        for thing in (*ODD_THINGS, (), [first], list(first), (first[0], None), first[::-1], (first[0],) * 2,
                      ((("hide", 0, 0), ("", 0)),), ((("hide", 0, 0), ("", Equal())),), ((("hide", 0, 1), ("", "")),)):
            self.check((1, 1), (IDLE,), ("asleep", (thing,)), False)
            self.check((1, 1), (IDLE,), ("asleep", (first, thing)), False)

    def test_forms(self):
        first = knowledge((1, 1), ())
        for paper in (*ODD_THINGS, (), ("asleep",), ("asleep", (first,), ()), ["asleep", (first,)], ((first,),
                                                                                                     "asleep"),
                      ("wakes", [("wipe",)]), ("asleep", [first]), ("asleep", None), ("asleep", {}), ("wakes", "wipe"),
                      ("Wakes", ()), ("", ()), (None, ()), (0, ()), (Equal(), ()), (b"wakes", ()), (("wakes",), ())):
            self.bad_paper("form", check_waking, (1, 1), (IDLE,), paper)


class Limits(Case):
    def test_knowledges(self):
        for kind, screen, choice in LEAST_AND_MOST:
            if kind in ("wakes", "asleep"):
                word, told = waking_paper(screen, choice)
                self.assertEqual(word, kind)
                self.assertEqual(check_waking(screen, choice, (word, told)), word)
                if word == "asleep":
                    self.assertEqual(len(told), 2000)
                    self.assertIsNone(waking(screen, choice))
                else:
                    self.assertEqual(waking(screen, choice), told)
            else:
                self.refused(TooGreat, "most", 2000, waking, screen, choice)
                self.refused(TooGreat, "most", 2000, waking_paper, screen, choice)
                # Papers are looked at all the same.
                self.bad_paper("wakes", check_waking, screen, choice, ("wakes", ()))

    def test_just_as_many_by_hand(self):
        for many, (_, screen, choice) in ((2000, LEAST_AND_MOST[1]), (2001, LEAST_AND_MOST[2])):
            rows = knowledges_by_hand(screen, choice)
            self.assertEqual(sum(len(row) for row in rows[:-1]), many)

    def test_many_knowledges(self):
        """As many codes and cells as there can be."""
        begun = time.monotonic()
        chance = chance_of(177)
        counted = {"wakes": 0, "asleep": 0, None: 0}
        for screen in TWELVE:
            for _ in range(12):
                codes = [code for code in all_codes(screen, "ab") if code[0] not in ("wipe", "clear")]
                choice = tuple(sorted(chance.sample(codes, 8)))
                try:
                    word, told = waking_paper(screen, choice)
                    self.assertEqual(check_waking(screen, choice, (word, told)), word)
                except TooGreat:
                    word = None
                counted[word] += 1
        self.assertGreater(counted[None], 5)
        self.assertLess(time.monotonic() - begun, 120)

    def test_great_tables(self):
        """Just below the bound on twelve cells."""
        begun = time.monotonic()
        for many, screen, choice in (
                (1513, (4, 3), (("at", 2, 2), ("put", "a"), ("rub",), ("tail",))),
                (1630, (3, 4), (("at", 0, 3), ("at", 2, 2), ("hide",), ("roll", 3), ("tail",))),
                (1902, (1, 12), (("at", 0, 1), ("at", 0, 9), ("clear",), ("rub",))),
                (1797, (2, 6), (("at", 0, 1), ("at", 1, 0), ("put", "b")))):
            word, table = waking_paper(screen, choice)
            self.assertEqual((word, len(table)), ("asleep", many))
            self.assertEqual(check_waking(screen, choice, (word, table)), "asleep")
            self.bad_paper("asleep", check_waking, screen, choice, (word, table[:-1]))
        for screen, choice in (
                ((4, 3), (("at", 0, 0), ("at", 2, 0), ("at", 3, 1), ("line",), ("put", "a"), ("put", "b"),
                          ("roll", 4), ("rub",))),
                ((3, 4), (("at", 0, 0), ("at", 1, 0), ("at", 1, 2), ("at", 2, 2), ("hide",), ("roll", 2), ("rub",),
                          ("tail",))),
                ((1, 12), (("at", 0, 2), ("at", 0, 3), ("at", 0, 5), ("at", 0, 8), ("hide",), ("rub",), ("swap",),
                           ("tail",))),
                ((2, 6), (("at", 0, 2), ("at", 1, 0), ("at", 1, 1), ("at", 1, 4), ("line",), ("roll", 1), ("rub",),
                          ("tail",)))):
            codes = waking(screen, choice)
            self.assertEqual(check_waking(screen, choice, ("wakes", codes)), "wakes")
        self.assertLess(time.monotonic() - begun, 120)

    def test_streams_of_two_thousand_codes(self):
        chance = chance_of(178)
        begun = time.monotonic()
        for screen in TWELVE:
            codes = some_codes(chance, screen, 2000, "ab")
            self.assertEqual(knowledge(screen, codes), knowledge_by_hand(screen, codes))
            self.assertEqual(knowledge(screen, (IDLE,) * 2000), first_knowledge(screen))
        self.assertLess(time.monotonic() - begun, 60)


class Refusals(Case):
    def test_screens(self):
        calls = ((knowledge, None), (later, None, None), (waking, None), (waking_paper, None),
                 (check_waking, None, None))
        for call, *rest in calls:
            for thing in (*BAD_SCREENS, *ODD_THINGS):
                self.refused(BadSize, "value", thing, call, thing, *rest)
            for screen in THIRTEEN:
                self.refused(TooGreat, "most", 12, call, screen, *rest)
        for screen in TWELVE:
            self.assertEqual(waking(screen, (("wipe",),)), (("wipe",),))
            self.assertEqual(later(screen, knowledge(screen, ()), IDLE), knowledge(screen, (IDLE,)))

    def test_choices(self):
        eight = tuple(sorted([("put", sign) for sign in "abcdef"] + [("clear",), ("swap",)]))
        nine = tuple(sorted(eight + (("hide",),)))
        for choice in (eight, eight[:1], (("wipe",),)):
            self.assertRaises(BadPaper, check_waking, (1, 1), choice, None)
            waking((1, 1), choice)
        wrong = [thing for thing in ODD_THINGS] + [
            (), nine, eight[::-1], (("wipe",), ("swap",)), (IDLE, IDLE), (("put", "b"), ("put", "a")), [IDLE], IDLE,
            (("at", 0, 1), ("at", 0, 0)), (IDLE, None), (None, IDLE), (IDLE, ["swap"]), ((IDLE,),)]
        wrong += [(code,) for code in BAD_CODES]
        for thing in wrong:
            self.out_of_place(waking, (1, 2), thing)
            self.out_of_place(waking_paper, (1, 2), thing)
            # The choice is told ahead of the paper.
            self.out_of_place(check_waking, (1, 2), thing, None)
        # A place that only a larger screen has.
        self.out_of_place(waking, (1, 2), (("at", 0, 2),))
        self.out_of_place(waking, (1, 2), (("roll", 2),))


# What finds just 2,000 KNOWLEDGES, or one more, ahead of one that is sure, or at all.
LEAST_AND_MOST = (
    ("asleep", (4, 2), (("at", 0, 1), ("at", 1, 1), ("at", 2, 1), ("line",), ("paint",), ("roll", 2), ("roll", 3),
                        ("swap",))),
    ("wakes", (1, 5), (("at", 0, 0), ("at", 0, 2), ("at", 0, 3), ("at", 0, 4), ("paint",), ("put", "b"), ("swap",))),
    # These would be asleep.
    ("too great", (1, 3), PUTS),
    ("too great", (1, 12), (("at", 0, 3), ("at", 0, 8), ("put", "a"))),
    # These would wake.
    ("too great", (1, 6), (("at", 0, 0), ("at", 0, 1), ("at", 0, 2), ("at", 0, 4), ("clear",), IDLE, ("put", "c"),
                           ("roll", 1))),
    ("too great", (1, 4), (("at", 0, 0), ("at", 0, 2), ("line",), ("paint",), ("put", "a"), ("rub",), ("swap",))),
)
