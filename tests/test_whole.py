"""The whole way: words, a plan, its file, cuts, another rate, flat cues, a stream, a late viewer, and back."""

import copy
import unittest

from captionhouse import (counts, cuts, decoders, desk, fewest, files, lines, losses, mending, plans, rates, receivers,
                          sending, strokes, summaries, tapes, texts, tuning, waking, zaps)
from captionhouse.errors import BadCode, Nothing, OutOfPlace
from tests.brute import chance_of
from tests.helpers import Case
from tests.laying import laid_by_hand, shown_by_hand, told_pictures
from tests.streams import some_codes

SCREEN = (2, 6)
SPOKEN = (("one", 0, 20, 24), ("two", 0, 24, 29), ("an", 1, 40, 42), ("owl", 0, 42, 47), ("four", 0, 60, 66),
          ("to", 1, 90, 91), ("six", 0, 91, 96))
RULES = (2, 6, 6, 40, 2, 1, 1, 10, 12)
CUTS = ((10, 50), (55, 110))
STEP = ((5, 4, "near"),)


def planned_file():
    return plans.plan_file(SPOKEN, RULES, plans.plan(SPOKEN, RULES))


class TheWholeWay(Case):
    def test_each_step(self):
        plan = plans.plan(SPOKEN, RULES)
        self.assertTrue(plans.is_plan(SPOKEN, RULES, plan))
        self.assertEqual(plans.check_plan(SPOKEN, RULES, plans.plan_paper(SPOKEN, RULES)), "plan")
        self.assertLessEqual(fewest.fewest_cues(SPOKEN, RULES), len(plan))
        file = planned_file()
        # Each TEXT is the best breaking of its words.
        first = 0
        for (count, start, end), cue in zip(plan, file):
            words = tuple(word[:2] for word in SPOKEN[first:first + count])
            self.assertEqual(cue, (start, end, lines.lines_of(words, lines.best(words, RULES[:2]))))
            first += count
        self.assertEqual(counts.late_of(SPOKEN, RULES, tuple(cue[0] for cue in plan)) <= RULES[8], True)
        carried = cuts.carried(CUTS, file)
        for frame in range(cuts.length(CUTS)):
            self.assertEqual(files.seen(carried, frame), files.seen(file, cuts.source(CUTS, frame)))
        moved = rates.moved_file(STEP, carried)
        flat = files.flat(moved)
        self.assertTrue(files.is_flat(flat))
        self.assertEqual(strokes.fewest(moved), len(strokes.fewest_file(moved)))
        sendable = sending.put_off(SCREEN, flat)
        self.assertIsNotNone(sendable)
        word, stream = sending.send_paper(SCREEN, sendable)
        self.assertEqual((word, stream), ("stream", laid_by_hand(sendable)))
        self.assertEqual(sending.check_send(SCREEN, sendable, (word, stream)), "stream")
        # And back: what is shown is what was sent, and its text is read as the stream again.
        shown = sending.shows(SCREEN, stream)
        self.assertEqual(shown, shown_by_hand(SCREEN, stream))
        back = tuple((start, end, sending.text_of(SCREEN, picture)) for start, end, picture in shown)
        self.assertEqual(back, files.flat(sendable))
        self.assertEqual(tapes.read_stream(SCREEN, tapes.stream_text(SCREEN, stream)), stream)
        self.assertEqual(texts.read_file(texts.file_text(back)), back)

    def test_a_late_viewer(self):
        stream = self.stream()
        told = told_pictures(SCREEN, sending.put_off(SCREEN, self.flat_cues()))
        self.assertEqual(decoders.pictures(SCREEN, stream), told)
        last = len(stream) - 1
        for begin in (0, 3, len(stream) // 3, len(stream) // 2):
            rows = tuning.sure(SCREEN, stream[begin:])
            self.assertEqual(tuple("".join(row) for row in rows), told[last])
            known = waking.knowledge(SCREEN, stream[begin:])
            self.assertEqual({pair[1][:12] for pair in known}, {tuple("".join(told[last]))})
        # Sent again and again it settles, for whom ever.
        for begin in (0, 7, last):
            paper = tuning.settle_paper(SCREEN, (), stream[:400], begin)
            self.assertEqual(paper[0], "settles")
            self.assertEqual(tuning.check_settle(SCREEN, (), stream[:400], begin, paper), "settles")

    def flat_cues(self):
        return files.flat(rates.moved_file(STEP, cuts.carried(CUTS, planned_file())))

    def stream(self):
        return sending.send_paper(SCREEN, sending.put_off(SCREEN, self.flat_cues()))[1]

    def test_the_same_at_the_desk(self):
        table = desk.Desk()
        told = [f"word {word} {holds} {begin} {end}" for word, holds, begin, end in SPOKEN]
        told += ["rules " + " ".join(map(str, RULES)), "file", "cut " + " ".join(f"{a} {b}" for a, b in CUTS),
                 "rate 5 4 near", f"screen {SCREEN[0]} {SCREEN[1]}"]
        for line in told:
            self.assertEqual(table.say(line), "done", line)
        self.assertEqual(table.cues, rates.moved_file(STEP, cuts.carried(CUTS, planned_file())))
        word, told = sending.send_paper(SCREEN, self.flat_cues())
        self.assertEqual(table.say("send"), "done" if word == "stream" else f"short {told}")
        # What was put off goes back onto the desk, and out.
        self.assertEqual(table.say("bare"), "done")
        for line in texts.file_text(sending.put_off(SCREEN, self.flat_cues())).split("\n"):
            self.assertEqual(table.say("cue " + line), "done")
        self.assertEqual(table.say("send"), "done")
        self.assertEqual(table.stream, self.stream())
        for frame, picture in enumerate(decoders.pictures(SCREEN, table.stream)):
            text = sending.text_of(SCREEN, picture)
            self.assertEqual(table.say(f"show {frame}"), "none" if text is None else "|".join(text))
        self.assertEqual(table.say(f"tune 0 {len(table.stream) - 1}"), "sure")

    def test_the_same_at_a_receiver(self):
        stream = self.stream()
        receiver = receivers.Receiver(SCREEN)
        self.assertEqual(tuple(receiver(code) for code in stream), decoders.pictures(SCREEN, stream))
        self.assertEqual(receiver.sure(0), tuning.sure(SCREEN, stream))
        self.assertEqual(receiver.state, decoders.led(SCREEN, decoders.first_state(SCREEN), stream))
        receiver.back(many=len(stream))
        self.assertEqual(receiver, receivers.Receiver(SCREEN))

    def test_what_may_be_lost(self):
        """A lost code of a load is seen; each paper tells."""
        codes = self.stream()[:60]
        self.assertEqual(losses.least_loss(SCREEN, codes[:20]), None if sending.shows(SCREEN, codes[:20]) == () else 1)
        for most in (0, 1):
            paper = losses.loss_paper(SCREEN, codes, most)
            self.assertEqual(losses.check_loss(SCREEN, codes, most, paper), paper[0])
        self.assertEqual(losses.fair(SCREEN, codes), tuple(sorted(set(decoders.pictures(SCREEN, codes)))))

    def test_back_from_the_cuts(self):
        wanted = ((12, 40), (60, 100))
        paper = cuts.bringing_paper(CUTS, wanted)
        self.assertEqual(cuts.check_bringing(CUTS, wanted, paper), len(paper[0]))
        file = planned_file()
        self.assertEqual(cuts.carried(paper[0], cuts.carried(CUTS, file)), cuts.carried(wanted, file))

    def test_mended_and_moved_back(self):
        flat = files.flat(planned_file())
        paper = mending.mending_paper(flat, 200, 9, 2)
        self.assertEqual(mending.check_mending(flat, 200, 9, 2, paper), paper[0])
        self.assertTrue(rates.comes_back(((3, 1, "up"), (1, 3, "near"))))
        self.assertEqual(rates.moved_file(((3, 1, "up"), (1, 3, "near")), flat), flat)

    def test_channels_of_streams(self):
        channels = (self.stream()[:12], self.stream()[-12:])
        paper = zaps.zap_paper(SCREEN, channels)
        self.assertEqual(zaps.check_zap(SCREEN, channels, paper), paper[0])
        for picture in zaps.good(SCREEN, channels):
            self.assertTrue(decoders.is_memory(SCREEN, picture))


class Facts(Case):
    def test_loads_as_summaries(self):
        """A load and a swap lead each STATE to the same PICTURE, so that they wake."""
        for text in (("ab",), ("a b", "c"), ("abcdef", "abcdef")):
            codes = sending.load(SCREEN, text) + (("swap",),)
            self.assertEqual(tuple("".join(row) for row in tuning.sure(SCREEN, codes)),
                             sending.picture_of(SCREEN, text))
            entries = summaries.summary(SCREEN, codes)
            shown = tuple("".join(sending.picture_of(SCREEN, text)))
            self.assertEqual({cells[:12] for _, _, cells in entries}, {shown})
            paper = ("wakes", codes)
            choice = tuple(sorted(set(codes)))[:8]
            if set(codes) <= set(choice):
                self.assertEqual(waking.check_waking(SCREEN, choice, paper), "wakes")

    def test_knowledge_and_sure(self):
        chance = chance_of(250)
        for _ in range(30):
            codes = some_codes(chance, (2, 2), chance.randint(0, 12), "ab")
            known = waking.knowledge((2, 2), codes)
            rows = [{pair[1][cell] for pair in known} for cell in range(4)]
            told = [signs.pop() or None if len(signs) == 1 else None for signs in rows]
            self.assertEqual([sign for row in tuning.sure((2, 2), codes) for sign in row], told)


class PartTwoByName(Case):
    """Classes by the names of their parameters; the functions are called so in tests.test_names."""

    def test_classes(self):
        state = decoders.first_state(SCREEN)
        receiver = receivers.Receiver(begin=state, screen=SCREEN)
        self.assertEqual(receiver, receivers.Receiver(SCREEN, begin=state))
        self.assertEqual(receiver(code=("wipe",)), receivers.Receiver(SCREEN)(("wipe",)))
        self.assertEqual(receiver.sure(since=0), receiver.sure(0))
        self.assertEqual(receivers.under(receiver=receiver, deed=len), receivers.under(receiver, len))
        receiver.back(many=1)
        self.assertEqual(len(receiver), 0)
        self.assertEqual(desk.Desk().say(line="strokes"), "0")

    def test_later_changes_have_no_effect(self):
        """What was passed or returned may be changed, where it is no tuple."""
        receiver = receivers.Receiver(SCREEN)
        for code in (("put", "a"), ("swap",)):
            receiver(code)
        codes = receiver.codes
        receiver(("wipe",))
        self.assertEqual(codes, (("put", "a"), ("swap",)))
        with self.assertRaises(BadCode) as caught:
            zaps.good(SCREEN, [])
        caught.exception.place = 5
        with self.assertRaises(BadCode) as again:
            zaps.good(SCREEN, [])
        self.assertEqual(again.exception.place, ())

    def test_arguments_stay(self):
        receiver = receivers.Receiver(SCREEN)
        receiver(("put", "a"))
        kept = copy.copy(vars(receiver))
        for call in (lambda: receiver.sure(1), receiver.copy, receiver.trial, lambda: len(receiver),
                     lambda: ("put", "a") in receiver, lambda: receiver == receiver.copy(),
                     lambda: receivers.under(receiver, lambda held: held(("swap",))),
                     lambda: self.assertRaises(OutOfPlace, receiver.sure, 5),
                     lambda: self.assertRaises(Nothing, receiver.back, many=5),
                     lambda: self.assertRaises(BadCode, receiver, 5)):
            call()
            self.assertEqual(vars(receiver), kept)


if __name__ == "__main__":
    unittest.main()
