"""Codes of a stream that are lost, and whether they make a picture that is not fair."""

from captionhouse.checks import ascends, is_tuple, is_within, is_word_and_tuple
from captionhouse.decoders import blank, first_state, is_state_of, need_codes, need_screen, pictures, state_behind
from captionhouse.errors import BadPaper, OutOfPlace, TooGreat

MOST_LOST = 9
MOST_TRIPLES = 3000
IDLE = ("idle",)


class Losses:
    """The triples (FRAME, LOST, STATE) of a STREAM that come through such alone whose SHOWN is FAIR.

    came has a dict for each FRAME: of each STATE its least LOST, the STATE
    ahead of it, and whether the CODE between them is lost. Its triples are
    found with no lost ones first, then with one more each time; fresh has, for
    each frame of the STREAM, the STATES with as many as were looked at last.
    """

    def __init__(self, screen, codes):
        self.came = [{} for _ in range(len(codes) + 1)]
        self.unfair_at = None
        self._screen = screen
        self._codes = codes
        self._known = _fair_ones(screen, codes)
        self._fresh = [[] for _ in codes]
        self._many = 0

    def look(self, lost):
        """Finds all triples with so many lost ones, the least that was not looked at; whether more may come of them."""
        ahead = self._fresh
        self._fresh = []
        row = []
        if lost == 0:
            row = [first_state(self._screen)]
            self._keep(0, row[0], (0, None, False))
        for frame in range(len(self._codes)):
            self._fresh.append(row)
            row = self._row_behind(frame, lost, row, ahead[frame])
        return any([len(states) > 0 for states in self._fresh])

    def frames(self):
        """The frames of the CODES that are lost where a PICTURE is not FAIR."""
        frame, state = self.unfair_at
        backwards = []
        while frame > 0:
            _, state, is_lost = self.came[frame][state]
            frame -= 1
            if is_lost:
                backwards.append(frame)
        return tuple(backwards[::-1])

    def triples(self):
        """All triples that were found."""
        return [(frame, told[0], state) for frame, row in enumerate(self.came) for state, told in row.items()]

    def _row_behind(self, frame, lost, row, row_of_less):
        """The STATES behind the CODE of a frame that come first with so many lost ones.

        row are those ahead of it, row_of_less those with one lost less.
        """
        behind = []
        for state in row:
            other = state_behind(self._screen, state, self._codes[frame])
            if other[3] not in self._known:
                self.unfair_at = (frame, state)
            elif self._keep(frame + 1, other, (lost, state, False)):
                behind.append(other)
        for state in row_of_less:
            if self._keep(frame + 1, state, (lost, state, True)):
                behind.append(state)
        return behind

    def _keep(self, frame, state, told):
        """Whether a FAIR STATE is one that did not come for this FRAME, which is kept then."""
        if state in self.came[frame]:
            return False
        self.came[frame][state] = told
        self._many += 1
        if self._many > MOST_TRIPLES:
            raise TooGreat(MOST_TRIPLES)
        return True


def fair(screen, codes):
    """All FAIR PICTURES, ascending."""
    return tuple(sorted(_fair_ones(screen, codes)))


def loss_paper(screen, codes, most):
    """A paper on whether so many lost CODES at most make a PICTURE that is not FAIR."""
    _need_arguments(screen, codes, most)
    losses = Losses(screen, codes)
    if _least_unfair(losses, most) is not None:
        return ("lost", losses.frames())
    return ("safe", tuple(sorted(losses.triples())))


def check_loss(screen, codes, most, paper):
    """The word of a paper on lost CODES, if all of it is as told."""
    _need_arguments(screen, codes, most)
    if not is_word_and_tuple(paper, ("lost", "safe")):
        raise BadPaper("form")
    word, told = paper
    if word == "lost" and not _makes_unfair(screen, codes, most, told):
        raise BadPaper("lost")
    if word == "safe" and not _keeps_fair(screen, codes, most, told):
        raise BadPaper("safe")
    return word


def least_loss(screen, codes):
    """How few lost CODES make a PICTURE that is not FAIR, or None."""
    need_screen(screen)
    need_codes(screen, codes)
    return _least_unfair(Losses(screen, codes), len(codes))


def _fair_ones(screen, codes):
    """A dict of all FAIR PICTURES."""
    return {picture: True for picture in [blank(screen), *pictures(screen, codes)]}


def _need_arguments(screen, codes, most):
    need_screen(screen)
    need_codes(screen, codes)
    if not is_within(most, 0, MOST_LOST):
        raise OutOfPlace("no number of lost codes")


def _least_unfair(losses, most):
    """How few lost ones, up to so many, make a PICTURE that is not FAIR, or None."""
    for lost in range(most + 1):
        is_more = losses.look(lost)
        if losses.unfair_at is not None:
            return lost
        if not is_more:
            return None
    return None


def _makes_unfair(screen, codes, most, thing):
    """Whether a tuple is of at most so many frames, whose CODES make a PICTURE not FAIR if they are lost."""
    if len(thing) > most or not all([is_within(frame, 0, len(codes) - 1) for frame in thing]) or not ascends(thing):
        return False
    left = [IDLE if frame in thing else code for frame, code in enumerate(codes)]
    known = _fair_ones(screen, codes)
    return not all([picture in known for picture in pictures(screen, tuple(left))])


def _is_triple(screen, many, most, thing):
    if not is_tuple(thing, 3, 3) or not is_within(thing[0], 0, many) or not is_within(thing[1], 0, most):
        return False
    return is_state_of(screen, thing[2])


def _keeps_fair(screen, codes, most, thing):
    """Whether a tuple is a TABLE that shows that no so many lost ones make a PICTURE that is not FAIR."""
    if not all([_is_triple(screen, len(codes), most, triple) for triple in thing]) or not ascends(thing):
        return False
    known = _fair_ones(screen, codes)
    if (0, 0, first_state(screen)) not in thing or not all([triple[2][3] in known for triple in thing]):
        return False
    least = {}
    # The table ascends: of each STATE of a FRAME its least LOST comes first.
    for frame, lost, state in thing:
        if (frame, state) not in least:
            least[frame, state] = lost
    return all([_goes_on(screen, codes, most, least, triple) for triple in thing])


def _goes_on(screen, codes, most, least, triple):
    """Whether what comes of a triple is there, with as many lost ones or fewer."""
    frame, lost, state = triple
    if frame == len(codes):
        return True
    other = state_behind(screen, state, codes[frame])
    if least.get((frame + 1, other), most + 1) > lost:
        return False
    return lost == most or least.get((frame + 1, state), most + 1) <= lost + 1
