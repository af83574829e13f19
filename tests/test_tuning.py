"""[16]: what who tunes in is sure of, endless streams that settle or never do, and the papers on them."""

import time

from captionhouse.errors import BadCode, BadPaper, BadSize, OutOfPlace, TooGreat
from captionhouse.tuning import check_settle, settle_paper, settled, sure
from tests.brute import chance_of
from tests.helpers import ODD_THINGS, Case, Equal
from tests.streams import endless_by_hand, flags_by_hand, some_codes, summary_by_hand, sure_by_hand
from tests.test_decoders import BAD_CODES, BAD_SCREENS
from tests.test_summaries import THIRTEEN, TWELVE

IDLE = (("idle",),)
# Behind this stream all is sure of a screen of one row: blanks, but one sign.
SURE = (("hide",), ("clear",), ("at", 0, 0), ("put", "a"), ("swap",))


def paper_holds(screen, head, ring, begin, paper):
    """Whether a paper of the right form is as [16] tells."""
    word, many, low, high = paper
    if not low < high or begin + low < len(head) or (high - low) % len(ring) != 0:
        return False
    codes = endless_by_hand(head, ring, begin, high)
    if summary_by_hand(screen, codes[:low]) != summary_by_hand(screen, codes):
        return False
    flags = flags_by_hand(screen, codes)
    if word == "settles":
        return 0 <= many <= low and all(flags[many:high]) and (many == 0 or not flags[many - 1])
    return low <= many < high and not flags[many]


class Sure(Case):
    def test_all_states_of_small_screens(self):
        chance = chance_of(160)
        counted = {"none": 0, "some": 0, "all": 0}
        for screen in ((1, 1), (1, 2), (2, 1), (1, 3)):
            for _ in range(40):
                codes = some_codes(chance, screen, chance.randint(0, 9), "x ")
                found = sure(screen, codes)
                self.assertEqual(found, sure_by_hand(screen, codes))
                cells = [cell for row in found for cell in row]
                unsure = cells.count(None)
                counted["none" if unsure == len(cells) else "some" if unsure else "all"] += 1
        self.assertGreater(min(counted.values()), 10)

    def test_larger_screens(self):
        chance = chance_of(161)
        for screen in ((2, 2), (3, 1), (4, 1)) + TWELVE:
            for _ in range(10):
                codes = some_codes(chance, screen, chance.randint(0, 60), "x ")
                found = sure(screen, codes)
                summaries = summary_by_hand(screen, codes)
                half = screen[0] * screen[1]
                cells = []
                for cell in range(half):
                    signs = {entry[2][cell] for entry in summaries}
                    sign = signs.pop()
                    cells.append(sign if not signs and isinstance(sign, str) else None)
                self.assertEqual([sign for row in found for sign in row], cells)
                self.assertEqual([len(row) for row in found], [screen[1]] * screen[0])
                self.assertEqual(all(sign is not None for sign in cells), flags_by_hand(screen, codes)[-1])

    def test_by_hand(self):
        self.assertEqual(sure((2, 3), ()), ((None,) * 3,) * 2)
        self.assertEqual(sure((2, 3), (("wipe",),)), ((" ",) * 3,) * 2)
        self.assertEqual(sure((2, 3), (("clear",),)), ((None,) * 3,) * 2)
        self.assertEqual(sure((2, 3), (("paint",), ("at", 1, 1), ("put", "a"))), ((None,) * 3, (None, "a", None)))
        # In the other MODES the sign goes into the memory that is shown, in "hide" it does not.
        self.assertEqual(sure((2, 3), (("at", 1, 1), ("put", "a"))), ((None,) * 3,) * 2)
        self.assertEqual(sure((2, 3), (("roll", 1), ("line",))), ((None,) * 3, (" ",) * 3))
        self.assertEqual(sure((1, 2), SURE), (("a", " "),))
        self.assertEqual(sure(screen=(1, 1), codes=(("paint",), ("put", "~"))), (("~",),))
        # Of all CONTROLS the same cell is unsure, or an unlike sign is told.
        self.assertEqual(sure((1, 2), (("wipe",), ("put", "a"))), ((None, None),))
        self.assertEqual(sure((1, 2), (("wipe",), ("paint",), ("put", "a"))), ((None, None),))
        self.assertEqual(sure((1, 1), (("wipe",), ("put", " "))), ((" ",),))

    def test_2000_codes(self):
        chance = chance_of(162)
        begun = time.monotonic()
        for screen in TWELVE:
            codes = some_codes(chance, screen, 2000, "x ")
            self.assertNotIn(None, [sign for row in sure(screen, codes) for sign in row])
            self.assertEqual(sure(screen, IDLE * 2000), ((None,) * screen[1],) * screen[0])
        self.assertLess(time.monotonic() - begun, 30)


class AgainstManyMoreCodes(Case):
    def look(self, screen, head, ring, begin):
        """N by a look at many more CODES than the paper tells of; the paper holds by hand."""
        paper = settle_paper(screen, head, ring, begin)
        word, many, low, high = paper
        flags = flags_by_hand(screen, endless_by_hand(head, ring, begin, 2 * high + len(head) + 20 * len(ring)))
        found = settled(screen, head, ring, begin)
        if all(flags[-2 * len(ring):]):
            self.assertEqual(word, "settles")
            self.assertEqual(many, max([number + 1 for number, flag in enumerate(flags) if not flag]))
            self.assertEqual(found, many)
        else:
            self.assertEqual(word, "never")
            self.assertIsNone(found)
        self.assertTrue(paper_holds(screen, head, ring, begin, paper))
        self.assertEqual(check_settle(screen, head, ring, begin, paper), word)
        self.assertLessEqual(high, 9999)
        return found

    def test_random_streams(self):
        chance = chance_of(163)
        found = []
        for screen in ((1, 1), (1, 2), (2, 1), (2, 2), (1, 4), (4, 1)):
            for _ in range(60):
                head = some_codes(chance, screen, chance.randint(0, 8), "x ")
                ring = some_codes(chance, screen, chance.randint(1, 6), "x ")
                found.append(self.look(screen, head, ring, chance.randint(0, 20)))
        self.assertGreater(found.count(None), 60)
        self.assertGreater(len([many for many in found if many is not None]), 60)
        self.assertGreater(len([many for many in found if many is not None and many > 10]), 5)

    def test_begins(self):
        """Within HEAD, at its end, within RING, and behind many rounds."""
        chance = chance_of(164)
        for screen in ((1, 2), (2, 1)):
            for _ in range(6):
                head = some_codes(chance, screen, 4, "x ")
                ring = SURE + some_codes(chance, screen, 3, "x ")
                for begin in (0, 1, 3, 4, 5, 8, 11, 12, 13, 400, 407, 4000):
                    self.look(screen, head, ring, begin)

    def test_larger_screens(self):
        chance = chance_of(165)
        for screen in TWELVE:
            for many in (1, 2, 12):
                self.look(screen, some_codes(chance, screen, 20, "x "), some_codes(chance, screen, many, "x "), 7)

    def test_rounds_of_the_fact(self):
        """Streams that take as many rounds as they can until all goes round."""
        for screen in TWELVE:
            rows, columns = screen
            for ring in ((("put", "a"),), (("line",),), (("put", "a"), ("swap",)),
                         (("paint",), ("put", "a"), ("swap",)),
                         (("rub",),), (("paint",), ("rub",)), (("line",), ("tail",), ("swap",)),
                         (("paint",), ("line",), ("tail",), ("put", "a"))):
                self.look(screen, (), ring, 0)
                low, high = settle_paper(screen, (), ring, 0)[2:]
                self.assertLessEqual(high, (columns + 3 * rows + 4) * len(ring))
                self.assertLessEqual(high - low, 2 * len(ring))


class ByHand(Case):
    screen = (1, 2)

    def test_at_once_late_and_never(self):
        self.assertEqual(settled(self.screen, (), (("wipe",),), 0), 1)
        self.assertEqual(settled(self.screen, (("wipe",),), IDLE, 0), 1)
        self.assertIsNone(settled(self.screen, (("wipe",),), IDLE, 1))
        self.assertIsNone(settled(self.screen, (), IDLE, 0))
        self.assertEqual(settled(self.screen, IDLE * 7, (("wipe",),), 3), 5)
        self.assertEqual(settled(self.screen, IDLE * 7 + (("wipe",),), IDLE, 7), 1)
        self.assertEqual(settled(self.screen, (), SURE, 0), 5)
        self.assertEqual(settled(self.screen, (), SURE, 1), 9)
        # Each round all is sure and then no longer.
        self.assertIsNone(settled((1, 1), (), (("wipe",), ("put", "a")), 0))
        self.assertEqual(settled((1, 1), (), (("wipe",), ("put", " ")), 0), 1)
        self.assertEqual(settled(self.screen, (), (("wipe",), ("swap",)), 0), 3)
        self.assertEqual(settled(ring=(("wipe",),), begin=4000, head=(), screen=self.screen), 1)

    def test_sure_and_then_unsure_again(self):
        head = (("wipe",), ("swap",), ("wipe",), ("swap",))
        self.assertEqual(settled(self.screen, head, IDLE, 0), 3)
        self.assertEqual(settled(self.screen, head[:2] + IDLE + head[2:], IDLE, 0), 4)
        self.assertIsNone(settled(self.screen, head[:2], IDLE, 0))

    def test_limits(self):
        begun = time.monotonic()
        slow = (("swap",), ("put", "a")) + IDLE * 398
        for screen in TWELVE:
            paper = settle_paper(screen, IDLE * 2000, slow, 0)
            self.assertEqual(paper[0], "never")
            self.assertEqual(check_settle(screen, IDLE * 2000, slow, 0, paper), "never")
            self.assertEqual(settled(screen, IDLE * 2000, IDLE * 399 + (("wipe",),), 0), 2400)
            self.assertEqual(settled(screen, IDLE * 2000, IDLE * 399 + (("wipe",),), 4000), 400)
            paper = ("settles", 2400, 9199, 9999)
            self.assertEqual(check_settle(screen, IDLE * 2000, IDLE * 399 + (("wipe",),), 0, paper), "settles")
            rows, columns = screen
            ring = (("at", rows - 1, 0), ("paint",)) + IDLE * 396 + (("put", "a"), ("line",))
            self.assertEqual(check_settle(screen, IDLE * 2000, ring, 1, settle_paper(screen, IDLE * 2000, ring, 1)),
                             "never")
        self.assertLess(time.monotonic() - begun, 60)
        for ring in (IDLE, IDLE * 400):
            self.assertIsNone(settled(self.screen, (), ring, 0))
        for ring in ((), IDLE * 401):
            self.refused(BadCode, "place", None, settled, self.screen, (), ring, 0)


class Papers(Case):
    def test_each_paper_about(self):
        """check_settle takes a paper exactly if it is as told, whatever number is another one."""
        chance = chance_of(166)
        counted = {}
        screen = (1, 2)
        for _ in range(40):
            head = some_codes(chance, screen, chance.randint(0, 3), "x")
            ring = some_codes(chance, screen, chance.randint(1, 3), "x") + chance.choice(((), (("wipe",),)))
            begin = chance.randint(0, 6)
            _, many, low, high = settle_paper(screen, head, ring, begin)
            told = [("settles", "never"), (many - 1, many, many + 1, low, high - 1, high),
                    (low - 1, low, low + 1, low + len(ring)),
                    (high - 1, high, high + 1, high + len(ring), low)]
            for paper in [(word, a, b, c) for word in told[0] for a in told[1] for b in told[2] for c in told[3]]:
                if paper[2] >= 0 and paper[3] >= 0:
                    holds = paper_holds(screen, head, ring, begin, paper)
                    counted[paper[0], holds] = counted.get((paper[0], holds), 0) + 1
                    if holds:
                        self.assertEqual(check_settle(screen, head, ring, begin, paper), paper[0])
                    else:
                        self.bad_paper(paper[0], check_settle, screen, head, ring, begin, paper)
        self.assertGreater(min(counted.values()), 20)
        self.assertEqual(len(counted), 4)

    def check(self, paper):
        """Of a stream that settles behind 5 CODES: RING has three of them, and HEAD is two longer than BEGIN."""
        return check_settle((1, 1), IDLE * 4, (("idle",), ("idle",), ("wipe",)), 2, paper)

    def bad(self, part, *paper):
        self.bad_paper(part, self.check, paper)

    def test_settles(self):
        self.assertEqual(settled((1, 1), IDLE * 4, (("idle",), ("idle",), ("wipe",)), 2), 5)
        for low, high in ((5, 8), (6, 9), (5, 11), (8, 11), (7, 13), (9, 9999)):
            self.assertEqual(self.check(("settles", 5, low, high)), "settles")
        for paper in (("settles", 4, 5, 8), ("settles", 6, 6, 9), ("settles", 6, 8, 11), ("settles", 0, 5, 8),
                      ("settles", -1, 5, 8), ("settles", 5, 5, 7), ("settles", 5, 5, 9), ("settles", 5, 8, 5),
                      ("settles", 5, 5, 5), ("settles", 5, 4, 7), ("settles", 5, 2, 8), ("settles", 5, 3, 6),
                      ("settles", 10 ** 999, 5, 8), ("settles", -10 ** 999, 5, 8), ("settles", 1, 2, 5)):
            self.bad("settles", *paper)
        # 0 stands for I and for J as well, though J cannot be as told.
        for word in ("settles", "never"):
            self.bad(word, word, 0, 0, 0)
            self.bad(word, word, 5, 9999, 0)
        self.bad("never", "never", 5, 5, 8)
        self.bad("never", "never", 4, 5, 8)

    def test_i_and_j_of_unlike_places_or_ahead_of_the_end_of_head(self):
        # Behind the first code all stays as it is, so that the summaries are the same anywhere.
        head, ring = (("wipe",),) * 5, (("wipe",),) * 3
        for begin, low, high, holds in ((0, 5, 8, True), (0, 4, 7, False), (1, 4, 7, True), (1, 3, 6, False),
                                        (0, 5, 7, False), (0, 5, 9, False), (0, 6, 12, True), (4000, 1, 4, True),
                                        (5, 1, 4, True), (5, 1, 5, False), (3, 2, 5, True), (3, 1, 4, False)):
            paper = ("settles", 1, low, high)
            if holds:
                self.assertEqual(check_settle((1, 1), head, ring, begin, paper), "settles")
            else:
                self.bad_paper("settles", check_settle, (1, 1), head, ring, begin, paper)

    def test_never(self):
        # Each round all is sure behind the first code, but not behind the second one.
        told = ((1, 1), IDLE * 2, (("wipe",), ("put", "a")), 0)
        self.assertEqual(settle_paper(*told), ("never", 4, 4, 6))
        for paper in (("never", 4, 4, 6), ("never", 4, 4, 8), ("never", 6, 4, 8), ("never", 6, 5, 7),
                      ("never", 9996, 9000, 9998), ("never", 8, 4, 9998)):
            self.assertTrue(paper_holds(*told, paper))
            self.assertEqual(check_settle(*told, paper), "never")
        for paper in (("never", 3, 4, 6), ("never", 5, 4, 6), ("never", 6, 4, 6), ("never", -1, 4, 6),
                      ("never", 2, 4, 6),
                      ("never", 10 ** 999, 4, 6), ("never", 4, 6, 4), ("never", 4, 4, 4), ("never", 4, 4, 7),
                      ("never", 0, 0, 2), ("never", 2, 2, 4), ("never", 2, 1, 5), ("never", 4, 3, 6)):
            self.assertFalse(paper_holds(*told, paper))
            self.bad_paper("never", check_settle, *told, paper)
        self.bad_paper("settles", check_settle, *told, ("settles", 4, 4, 6))
        self.bad_paper("settles", check_settle, *told, ("settles", 3, 4, 6))

    def test_forms(self):
        for paper in (*ODD_THINGS, (), ("settles",), ("settles", 5, 5), ("settles", 5, 5, 8, 0), ["settles", 5, 5, 8],
                      ("Settles", 5, 5, 8), ("", 5, 5, 8), (None, 5, 5, 8), (Equal(), 5, 5, 8), (b"never", 5, 5, 8),
                      ("settles", None, 5, 8), ("settles", 5.0, 5, 8), ("settles", "5", 5, 8), ("settles", True, 5, 8),
                      ("settles", 5, -1, 8), ("settles", 5, 5, -1), ("settles", 5, True, 8), ("settles", 5, 5, True),
                      ("settles", 5, 5.0, 8), ("settles", 5, 5, None), ("settles", 5, 10000, 10003),
                      ("never", 5, 5, 10000),
                      ("settles", 5, 5, 10 ** 999), ("settles", 5, (5,), 8), ("settles", Equal(), 5, 8),
                      ("settles", 5, Equal(), 8), (("settles",), 5, 5, 8)):
            self.bad_paper("form", self.check, paper)


class Refusals(Case):
    def calls(self, rest):
        """sure, and those with a ring and a begin; rest stands for the second argument and what is behind it."""
        return ((settled, rest), (settle_paper, rest), (check_settle, rest + (None,)))

    def test_screens(self):
        for thing in BAD_SCREENS:
            self.refused(BadSize, "value", thing, sure, thing, None)
            for call, rest in self.calls((None, None, None)):
                self.refused(BadSize, "value", thing, call, thing, *rest)
        for screen in THIRTEEN:
            self.refused(TooGreat, "most", 12, sure, screen, None)
            for call, rest in self.calls((None, None, None)):
                self.refused(TooGreat, "most", 12, call, screen, *rest)

    def test_streams(self):
        wrong = [(thing, 0) for thing in BAD_CODES]
        for code, place in wrong:
            self.refused(BadCode, "place", place, sure, (2, 3), (code,))
            for call, rest in self.calls(((code,), None, None)):
                self.refused(BadCode, "place", place, call, (2, 3), *rest)
            for call, rest in self.calls(((), IDLE + (code, None), None)):
                self.refused(BadCode, "place", 1, call, (2, 3), *rest)
        for thing in (None, [], IDLE * 2001, "idle", 0, {}):
            self.refused(BadCode, "place", None, sure, (2, 3), thing)
            for call, rest in self.calls((thing, None, None)):
                self.refused(BadCode, "place", None, call, (2, 3), *rest)
        for thing in (None, [], (), IDLE * 401, (None,) * 401, "idle", 0, {}):
            for call, rest in self.calls((IDLE * 2000, thing, None)):
                self.refused(BadCode, "place", None, call, (2, 3), *rest)

    def test_begins(self):
        for begin in (-1, 4001, None, True, False, 0.0, "0", (0,), 10 ** 999):
            for call, rest in self.calls(((), IDLE, begin)):
                with self.assertRaises(OutOfPlace) as caught:
                    call((1, 1), *rest)
                self.assertIs(caught.exception.__class__, OutOfPlace)
        for begin in (0, 4000):
            self.assertIsNone(settled((1, 1), (), IDLE, begin))
        self.assertRaises(BadPaper, check_settle, (1, 1), (), IDLE, 4000, None)
        self.assertEqual(check_settle(paper=("never", 0, 0, 1), begin=0, ring=IDLE, head=(), screen=(1, 1)), "never")
        self.assertEqual(settle_paper(begin=0, ring=IDLE, head=(), screen=(1, 1))[0], "never")
