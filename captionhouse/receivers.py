"""Decoders that are led code by code, that take back, and that can be tried."""

from captionhouse.checks import is_integer, is_within
from captionhouse.decoders import MOST_CODES, first_state, is_code_of, is_state_of, need_code, need_screen, state_behind
from captionhouse.errors import Nothing, OutOfPlace, TooGreat
from captionhouse.summaries import need_small_screen
from captionhouse.tuning import sure_rows


class Receiver:
    """A decoder that is led."""

    def __init__(self, screen, *, begin=None):
        need_screen(screen)
        if begin is not None and not is_state_of(screen, begin):
            raise OutOfPlace("no state")
        self._screen = screen
        self._begin = begin
        self._codes = ()
        # One STATE for each number of CODES, from none on, so that taking back leads nothing again.
        if begin is None:
            self._states = (first_state(screen),)
        else:
            self._states = (begin,)

    def __call__(self, code):
        need_code(self._screen, code)
        if len(self._codes) == MOST_CODES:
            raise TooGreat(MOST_CODES)
        state = state_behind(self._screen, self._states[-1], code)
        self._codes = self._codes + (code,)
        self._states = self._states + (state,)
        return state[3]

    def __len__(self):
        return len(self._codes)

    def __contains__(self, code):
        return is_code_of(self._screen, code) and code in self._codes

    def __eq__(self, other):
        return (isinstance(other, Receiver) and self._screen == other._screen and self._begin == other._begin
                and self._codes == other._codes)

    @property
    def screen(self):
        """The SCREEN."""
        return self._screen

    @property
    def begin(self):
        """What was passed as the first STATE, None if nothing was."""
        return self._begin

    @property
    def state(self):
        """The STATE behind the CODES that have come."""
        return self._states[-1]

    @property
    def codes(self):
        """The CODES that have come."""
        return self._codes

    @property
    def picture(self):
        """What is SHOWN."""
        return self._states[-1][3]

    def sure(self, since):
        """The SURE cells for one who tuned in ahead of the CODE with this number."""
        if not is_within(since, 0, len(self._codes)):
            raise OutOfPlace("no number of a code")
        need_small_screen(self._screen)
        return sure_rows(self._screen, self._codes[since:])

    def back(self, *, many=1):
        """Takes so many CODES back."""
        if not is_integer(many) or many < 1:
            raise OutOfPlace("no number of codes")
        if many > len(self._codes):
            raise Nothing("not so many codes have come")
        self._codes = self._codes[:-many]
        self._states = self._states[:-many]

    def copy(self):
        """A Receiver that stands likewise and goes on by itself."""
        other = Receiver(self._screen, begin=self._begin)
        other._codes = self._codes
        other._states = self._states
        return other

    def trial(self):
        """Something for one with statement, behind which the Receiver is as it was when its block began."""
        return Trial(self)


class Trial:
    """What puts a Receiver back behind a block, however it ends."""

    def __init__(self, receiver):
        self._receiver = receiver
        self._kept_codes = ()
        self._kept_states = ()

    def __enter__(self):
        self._kept_codes = self._receiver._codes
        self._kept_states = self._receiver._states
        return self._receiver

    def __exit__(self, kind, value, trace):
        self._receiver._codes = self._kept_codes
        self._receiver._states = self._kept_states


def under(receiver, deed):
    """What deed(receiver) returns, called in a trial of it."""
    if not isinstance(receiver, Receiver):
        raise OutOfPlace("no receiver")
    with receiver.trial() as held:
        return deed(held)
