"""Receivers: decoders that are led, that take back, and that can be tried."""

import inspect
import time

from captionhouse.decoders import first_state, led
from captionhouse.errors import BadCode, BadSize, Nothing, OutOfPlace, TooGreat
from captionhouse.receivers import Receiver, under
from captionhouse.tuning import sure
from tests.brute import chance_of
from tests.helpers import ODD_THINGS, Case, Equal
from tests.streams import all_codes, first_by_hand, led_by_hand, some_codes, some_state, sure_by_hand
from tests.test_decoders import BAD_CODES, BAD_SCREENS
from tests.test_summaries import THIRTEEN, TWELVE

IDLE = ("idle",)
PUT = ("put", "a")
SCREENS = ((1, 1), (1, 3), (2, 2), (4, 3), (4, 40))


class Stop(Exception):
    """An error of the tests' own."""


def led_receiver(screen, codes, **named):
    receiver = Receiver(screen, **named)
    for code in codes:
        receiver(code)
    return receiver


class ReceiverCase(Case):
    def stands(self, receiver, screen, begin, codes):
        """Whether a Receiver stands behind just these CODES."""
        state = led_by_hand(screen, first_by_hand(screen) if begin is None else begin, codes)
        self.assertEqual((receiver.screen, receiver.begin, receiver.codes), (screen, begin, tuple(codes)))
        self.assertEqual((receiver.state, receiver.picture, len(receiver)), (state, state[3], len(codes)))

    def unchanged(self, receiver, call):
        """The call raises nothing else than it is to, and leaves the receiver as it was."""
        ahead = (receiver.screen, receiver.begin, receiver.codes, receiver.state, receiver.picture, len(receiver))
        call()
        behind = (receiver.screen, receiver.begin, receiver.codes, receiver.state, receiver.picture, len(receiver))
        self.assertEqual(ahead, behind)


class Led(ReceiverCase):
    def test_codes_that_come(self):
        chance = chance_of(220)
        for screen in SCREENS:
            for begin in (None, first_state(screen), some_state(chance, screen)):
                receiver = Receiver(screen, begin=begin)
                self.stands(receiver, screen, begin, ())
                codes = some_codes(chance, screen, 30, "ab ")
                for number, code in enumerate(codes):
                    picture = receiver(code)
                    self.stands(receiver, screen, begin, codes[:number + 1])
                    self.assertEqual(picture, receiver.picture)
        self.assertEqual(Receiver((1, 1))(code=PUT), (" ",))
        self.assertEqual(Receiver(screen=(1, 1), begin=("paint", 0, 0, ("x",), (" ",)))(IDLE), ("x",))

    def test_the_very_things(self):
        screen, begin = (1, 2), ("paint", 0, 1, ("ab",), ("  ",))
        receiver = Receiver(screen, begin=begin)
        self.assertIs(receiver.screen, screen)
        self.assertIs(receiver.begin, begin)
        self.assertIs(Receiver(screen).begin, None)
        self.assertEqual(receiver.state, begin)
        self.assertEqual(Receiver(screen).state, first_state(screen))

    def test_what_is_no_code(self):
        for receiver in (Receiver((2, 3)), led_receiver((2, 3), (PUT, ("swap",)))):
            for code in BAD_CODES:
                self.unchanged(receiver, lambda code=code: self.refused(BadCode, "place", 0, receiver, code))
        self.stands(receiver, (2, 3), None, (PUT, ("swap",)))

    def test_two_thousand_codes(self):
        begun = time.monotonic()
        chance = chance_of(221)
        for screen in ((1, 1), (4, 40)):
            codes = some_codes(chance, screen, 2000, "ab ")
            receiver = led_receiver(screen, codes)
            self.stands(receiver, screen, None, codes)
            self.unchanged(receiver, lambda: self.refused(TooGreat, "most", 2000, receiver, IDLE))
            # What is no CODE is told first.
            self.refused(BadCode, "place", 0, receiver, None)
            other = receiver.copy()
            self.refused(TooGreat, "most", 2000, other, IDLE)
            receiver.back()
            receiver(PUT)
            self.refused(TooGreat, "most", 2000, receiver, PUT)
            self.stands(receiver, screen, None, codes[:-1] + (PUT,))
            receiver.back(many=2000)
            self.stands(receiver, screen, None, ())
            self.stands(other, screen, None, codes)
        self.assertLess(time.monotonic() - begun, 30)

    def test_many_times_there_and_back(self):
        begun = time.monotonic()
        receiver = led_receiver((4, 40), (PUT,) * 1990)
        for _ in range(300):
            for _ in range(10):
                receiver(("line",))
            receiver.back(many=10)
            receiver.copy()(IDLE)
            under(receiver, lambda held: held(IDLE))
        self.stands(receiver, (4, 40), None, (PUT,) * 1990)
        self.assertLess(time.monotonic() - begun, 30)


class Refusals(ReceiverCase):
    def test_screens(self):
        for thing in (*BAD_SCREENS, *ODD_THINGS):
            self.refused(BadSize, "value", thing, Receiver, thing)
            self.refused(BadSize, "value", thing, Receiver, thing, begin=0)
            self.refused(BadSize, "value", thing, Receiver, screen=thing)

    def test_begins(self):
        state = first_state((2, 3))
        for begin in [thing for thing in ODD_THINGS if thing is not None] + [
                (), state[:4], state + (0,), list(state), ("roll3",) + state[1:], ("hide", 2, 0) + state[3:],
                ("hide", 0, 3) + state[3:], ("hide", True, 0) + state[3:], state[:4] + (("abc",),),
                state[:3] + (("ab%", "abc"), state[4]), first_state((3, 2)), Equal()]:
            with self.assertRaises(OutOfPlace) as caught:
                Receiver((2, 3), begin=begin)
            self.assertIs(caught.exception.__class__, OutOfPlace)

    def test_begin_is_told_by_its_name_alone(self):
        self.assertRaises(TypeError, Receiver, (1, 1), first_state((1, 1)))
        self.assertRaises(TypeError, Receiver((1, 1)).back, 1)
        self.assertEqual(str(inspect.signature(Receiver)), "(screen, *, begin=None)")

    def test_properties_are_not_assigned(self):
        receiver = led_receiver((1, 1), (PUT,))
        for name in ("screen", "begin", "state", "codes", "picture"):
            self.assertIsInstance(vars(Receiver)[name], property)
            with self.assertRaises(AttributeError):
                setattr(receiver, name, None)
        for name in ("__init__", "__call__", "__len__", "__contains__", "__eq__", "sure", "back", "copy", "trial"):
            self.assertIn(name, vars(Receiver))
        self.assertEqual(under.__module__, "captionhouse.receivers")


class Contains(ReceiverCase):
    def test_any_values(self):
        receiver = led_receiver((2, 3), (("at", 1, 0), PUT, ("roll", 1), IDLE))
        for code in (("at", 1, 0), PUT, ("roll", 1), IDLE):
            self.assertIs(code in receiver, True)
        for value in (*BAD_CODES, *ODD_THINGS, ("at", 0, 0), ("at", 0, 1), ("put", "b"), ("roll", 2), ("swap",),
                      ("at", True, 0), ("at", 1, False), ("at", 1.0, 0), ("roll", True), Equal(), (Equal(),),
                      ("put", Equal()), (PUT,), receiver, "put", ["put", "a"]):
            self.assertIs(value in receiver, False)
        for code in all_codes((2, 3)):
            self.assertIs(code in receiver, code in receiver.codes)
            self.assertIs(code in Receiver((2, 3)), False)

    def test_what_is_taken_back(self):
        receiver = led_receiver((1, 1), (PUT, IDLE))
        receiver.back()
        self.assertNotIn(IDLE, receiver)
        self.assertIn(PUT, receiver)


class Sure(ReceiverCase):
    def test_all_states(self):
        chance = chance_of(222)
        for screen in ((1, 1), (1, 2), (2, 1)):
            for begin in (None, some_state(chance, screen)):
                codes = some_codes(chance, screen, 12, "x ")
                receiver = led_receiver(screen, codes, begin=begin)
                for since in range(13):
                    self.assertEqual(receiver.sure(since), sure_by_hand(screen, codes[since:]))

    def test_as_sure_tells(self):
        chance = chance_of(223)
        for screen in TWELVE:
            codes = some_codes(chance, screen, 60, "x ")
            receiver = led_receiver(screen, codes)
            for since in range(0, 61, 6):
                self.assertEqual(receiver.sure(since=since), sure(screen, codes[since:]))
            receiver.back(many=30)
            self.assertEqual(receiver.sure(3), sure(screen, codes[3:30]))
            self.unchanged(receiver, lambda: receiver.sure(0))

    def test_numbers(self):
        receiver = led_receiver((1, 2), (("wipe",), IDLE))
        self.assertEqual(receiver.sure(0), ((" ", " "),))
        self.assertEqual(receiver.sure(2), ((None, None),))
        for since in (-1, 3, None, True, False, 1.0, "1", (1,), 10 ** 999, Equal()):
            self.unchanged(receiver, lambda since=since: self.out_of_place(receiver.sure, since))
        self.assertEqual(Receiver((1, 1)).sure(0), ((None,),))
        self.out_of_place(Receiver((1, 1)).sure, 1)

    def test_great_screens(self):
        for screen in THIRTEEN:
            receiver = led_receiver(screen, (PUT,))
            self.unchanged(receiver, lambda: self.refused(TooGreat, "most", 12, receiver.sure, 0))
            # The number is looked at first.
            self.out_of_place(receiver.sure, 2)


class Back(ReceiverCase):
    def test_taken_back(self):
        chance = chance_of(224)
        for screen in SCREENS:
            for begin in (None, some_state(chance, screen)):
                codes = some_codes(chance, screen, 20, "ab ")
                for many in (1, 2, 5, 19, 20):
                    receiver = led_receiver(screen, codes, begin=begin)
                    self.assertIsNone(receiver.back(many=many))
                    self.stands(receiver, screen, begin, codes[:-many])
                    receiver(PUT)
                    self.stands(receiver, screen, begin, codes[:-many] + (PUT,))
        receiver = led_receiver((1, 1), (PUT, IDLE))
        self.assertIsNone(receiver.back())
        self.stands(receiver, (1, 1), None, (PUT,))

    def test_what_is_refused(self):
        for receiver in (Receiver((1, 1)), led_receiver((1, 1), (PUT, PUT))):
            for many in (0, -1, None, True, False, 1.0, "1", (1,), -10 ** 999, Equal()):
                self.unchanged(receiver, lambda many=many: self.assertRaises(OutOfPlace, receiver.back, many=many))
            for many in (len(receiver) + 1, 2001, 10 ** 999):
                self.unchanged(receiver, lambda many=many: self.assertRaises(Nothing, receiver.back, many=many))
        self.assertRaises(Nothing, Receiver((1, 1)).back)


class Histories(ReceiverCase):
    def test_long_histories(self):
        """Calls of all kinds, against lists of CODES."""
        chance = chance_of(225)
        for screen in SCREENS:
            begin = chance.choice((None, some_state(chance, screen)))
            receivers = [(Receiver(screen, begin=begin), [])]
            for _ in range(250):
                receiver, codes = chance.choice(receivers)
                deed = chance.randrange(8)
                if deed < 4:
                    code = some_codes(chance, screen, 1, "ab ")[0]
                    codes.append(code)
                    self.assertEqual(receiver(code), receiver.state[3])
                elif deed == 4 and codes:
                    many = chance.randint(1, min(4, len(codes)))
                    del codes[-many:]
                    receiver.back(many=many)
                elif deed == 5 and len(receivers) < 5:
                    receivers.append((receiver.copy(), list(codes)))
                elif deed == 6:
                    self.trial(chance, receiver, screen)
                else:
                    self.assertRaises(BadCode, receiver, None)
                    self.assertRaises(Nothing, receiver.back, many=len(codes) + 1)
                self.stands(receiver, screen, begin, codes)
            for receiver, codes in receivers:
                self.stands(receiver, screen, begin, codes)
                for other, other_codes in receivers:
                    self.assertEqual(receiver == other, codes == other_codes)

    def trial(self, chance, receiver, screen):
        """A trial within which all may happen, and that ends with an error now and then."""
        codes = list(receiver.codes)
        try:
            with receiver.trial() as held:
                self.assertIs(held, receiver)
                for code in some_codes(chance, screen, 3, "ab "):
                    held(code)
                    codes.append(code)
                held.back(many=2)
                self.assertEqual(held.codes, tuple(codes[:-2]))
                with held.trial() as again:
                    again.back()
                    again(PUT)
                self.assertEqual(held.codes, tuple(codes[:-2]))
                if chance.randrange(2):
                    raise Stop()
        except Stop:
            pass


class Equals(ReceiverCase):
    def test_all_three(self):
        state = first_state((1, 2))
        paint = ("paint",) + state[1:]
        made = [led_receiver(screen, codes, begin=begin) for screen, begin in (
                    ((1, 2), None), ((1, 2), state), ((1, 2), paint), ((2, 1), None))
                for codes in ((), (IDLE,), (IDLE, IDLE), (("hide",),))]
        for place, one in enumerate(made):
            for other_place, other in enumerate(made):
                self.assertIs(one == other, place == other_place)
                self.assertIs(one != other, place != other_place)
            self.assertIs(one == one.copy(), True)
            self.assertIs(one == led_receiver(one.screen, one.codes, begin=one.begin), True)
        # The same CODES that came another way.
        one = led_receiver((1, 2), (PUT, IDLE))
        one.back()
        self.assertEqual(one, led_receiver((1, 2), (PUT,)))
        self.assertNotEqual(led_receiver((1, 2), (IDLE,)), Receiver((1, 2)))

    def test_other_things(self):
        receiver = Receiver((1, 1))
        for thing in [*ODD_THINGS, (), ((1, 1), None, ()), first_state((1, 1)), Receiver]:
            self.assertIs(receiver == thing, False)
            self.assertIs(receiver != thing, True)


class Copies(ReceiverCase):
    def test_they_go_on_by_themselves(self):
        state = ("paint", 0, 1, ("xy",), ("  ",))
        for begin in (None, state):
            one = led_receiver((1, 2), (PUT, ("swap",)), begin=begin)
            other = one.copy()
            self.assertIsInstance(other, Receiver)
            self.assertIsNot(one, other)
            other(("wipe",))
            self.stands(one, (1, 2), begin, (PUT, ("swap",)))
            self.stands(other, (1, 2), begin, (PUT, ("swap",), ("wipe",)))
            one.back(many=2)
            self.stands(one, (1, 2), begin, ())
            self.stands(other, (1, 2), begin, (PUT, ("swap",), ("wipe",)))
            other.back(many=3)
            self.assertEqual(one, other)
        with one.trial() as held:
            held(PUT)
            third = held.copy()
        self.stands(third, (1, 2), state, (PUT,))
        self.stands(one, (1, 2), state, ())


class Trials(ReceiverCase):
    def test_the_block_begins_it(self):
        """The receiver is as it was when the block began, not when the trial was made."""
        receiver = led_receiver((1, 1), (PUT,))
        trial = receiver.trial()
        receiver(IDLE)
        with trial as held:
            self.assertIs(held, receiver)
            held(("swap",))
            self.assertEqual(receiver.picture, ("a",))
        self.stands(receiver, (1, 1), None, (PUT, IDLE))

    def test_however_it_ends(self):
        receiver = led_receiver((1, 1), (PUT,))

        def returning():
            with receiver.trial() as held:
                held(IDLE)
                return "x"

        def breaking():
            for _ in range(3):
                with receiver.trial():
                    receiver.back()
                    break

        def raising(error):
            with receiver.trial() as held:
                held(IDLE)
                raise error

        self.assertEqual(returning(), "x")
        self.stands(receiver, (1, 1), None, (PUT,))
        breaking()
        self.stands(receiver, (1, 1), None, (PUT,))
        for error in (Stop(), BadCode(0), KeyboardInterrupt(), SystemExit(), GeneratorExit()):
            with self.assertRaises(error.__class__) as caught:
                raising(error)
            self.assertIs(caught.exception, error)
            self.stands(receiver, (1, 1), None, (PUT,))
        with self.assertRaises(TooGreat):
            with receiver.trial() as held:
                for _ in range(2000):
                    held(IDLE)
        self.stands(receiver, (1, 1), None, (PUT,))

    def test_trials_within_trials(self):
        receiver = Receiver((1, 1))
        with receiver.trial() as one:
            one(PUT)
            with one.trial() as other:
                other(("swap",))
                with other.trial() as third:
                    third.back(many=2)
                    self.assertEqual(len(receiver), 0)
                self.assertEqual(receiver.codes, (PUT, ("swap",)))
            self.assertEqual(receiver.codes, (PUT,))
        self.assertEqual(receiver.codes, ())

    def test_of_a_refused_call(self):
        receiver = led_receiver((1, 1), (PUT,))
        for error, deed in ((BadCode, lambda held: held(None)), (Nothing, lambda held: held.back(many=9)),
                            (OutOfPlace, lambda held: held.sure(9))):
            with self.assertRaises(error):
                with receiver.trial() as held:
                    held(IDLE)
                    deed(held)
            self.stands(receiver, (1, 1), None, (PUT,))


class Under(ReceiverCase):
    def test_what_the_deed_returns(self):
        receiver = led_receiver((1, 2), (PUT,))

        def deed(held):
            self.assertIs(held, receiver)
            held(("swap",))
            return held.picture

        self.assertEqual(under(receiver, deed), ("a ",))
        self.assertEqual(under(deed=deed, receiver=receiver), ("a ",))
        self.stands(receiver, (1, 2), None, (PUT,))
        self.assertIsNone(under(receiver, lambda held: held.back()))
        self.assertEqual(under(receiver, len), 1)
        self.assertIs(under(receiver, lambda held: held), receiver)
        self.assertEqual(under(receiver, lambda held: under(held, deed)), ("a ",))
        self.stands(receiver, (1, 2), None, (PUT,))

    def test_a_deed_that_ends_with_an_error(self):
        receiver = led_receiver((1, 2), (PUT,))

        def deed(held):
            held(IDLE)
            raise Stop()

        self.assertRaises(Stop, under, receiver, deed)
        self.assertRaises(BadCode, under, receiver, lambda held: held(0))
        self.stands(receiver, (1, 2), None, (PUT,))

    def test_what_is_no_receiver(self):
        for thing in (*ODD_THINGS, Receiver, (1, 1)):
            self.out_of_place(under, thing, len)

    def test_a_whole_stream(self):
        chance = chance_of(226)
        codes = some_codes(chance, (2, 3), 40, "ab")
        receiver = led_receiver((2, 3), codes[:20])

        def deed(held):
            for code in codes[20:]:
                held(code)
            return held.state

        self.assertEqual(under(receiver, deed), led((2, 3), first_state((2, 3)), codes))
        self.stands(receiver, (2, 3), None, codes[:20])
