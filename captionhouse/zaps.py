"""Changes between channels that are sent again and again, and whether they show what no channel does."""

from math import lcm

from captionhouse.checks import ascends, is_tuple, is_within, is_word_and_tuple
from captionhouse.decoders import are_codes, blank, first_state, is_state_of, need_screen, state_behind
from captionhouse.errors import BadCode, BadPaper, OutOfPlace
from captionhouse.search import searched

MOST_CHANNELS = 3
MOST_OF_CHANNEL = 12
MOST_ZAP = 2000
MOST_PAIRS = 3000


def good(screen, channels):
    """All GOOD PICTURES, ascending."""
    _need_channels(screen, channels)
    return tuple(sorted(_good_ones(screen, channels)))


def zapped(screen, channels, zap):
    """The STATE behind a ZAP."""
    _need_channels(screen, channels)
    if not _is_zap(channels, zap):
        raise OutOfPlace("no zap")
    return _behind_zap(screen, channels, zap)


def zap_paper(screen, channels):
    """A paper on whether a ZAP shows a false PICTURE."""
    _need_channels(screen, channels)
    known = _good_ones(screen, channels)
    phases = _phases_of(channels)

    def follow(pair):
        return _pairs_behind(screen, channels, phases, pair)

    def is_wanted(pair):
        return pair[1][3] not in known

    way, pairs = searched((0, first_state(screen)), follow, is_wanted, MOST_PAIRS)
    if way is not None:
        return ("zap", way)
    return ("clean", tuple(sorted(pairs)))


def check_zap(screen, channels, paper):
    """The word of a paper on whether a ZAP shows a false PICTURE, if all of it is as told."""
    _need_channels(screen, channels)
    if not is_word_and_tuple(paper, ("zap", "clean")):
        raise BadPaper("form")
    word, told = paper
    if word == "zap" and not _shows_false(screen, channels, told):
        raise BadPaper("zap")
    if word == "clean" and not _keeps_clean(screen, channels, told):
        raise BadPaper("clean")
    return word


def _need_channels(screen, channels):
    need_screen(screen)
    if not is_tuple(channels, 1, MOST_CHANNELS):
        raise BadCode(())
    for number, ring in enumerate(channels):
        if not are_codes(screen, ring, 1, MOST_OF_CHANNEL):
            raise BadCode(number)


def _good_ones(screen, channels):
    """A dict of all GOOD PICTURES."""
    known = {blank(screen): True}
    for ring in channels:
        state = first_state(screen)
        ahead = {}
        while state not in ahead:
            ahead[state] = True
            for code in ring:
                state = state_behind(screen, state, code)
                known[state[3]] = True
    return known


def _phases_of(channels):
    """How many PHASES there are."""
    many = 1
    for ring in channels:
        many = lcm(many, len(ring))
    return many


def _code_at(ring, frame):
    return ring[frame % len(ring)]


def _is_zap(channels, thing):
    """Whether thing is a ZAP of as many frames as one may have."""
    return is_tuple(thing, 0, MOST_ZAP) and all([is_within(number, 0, len(channels) - 1) for number in thing])


def _behind_zap(screen, channels, zap):
    state = first_state(screen)
    for frame, number in enumerate(zap):
        state = state_behind(screen, state, _code_at(channels[number], frame))
    return state


def _pairs_behind(screen, channels, phases, pair):
    """The pairs (PHASE, STATE) that come from one of them, by each of the CHANNELS."""
    phase, state = pair
    later = (phase + 1) % phases
    return [(later, state_behind(screen, state, _code_at(ring, phase))) for ring in channels]


def _shows_false(screen, channels, thing):
    """Whether a tuple is a ZAP behind whose last CODE a false PICTURE is SHOWN."""
    if not _is_zap(channels, thing):
        return False
    return _behind_zap(screen, channels, thing)[3] not in _good_ones(screen, channels)


def _is_pair(screen, phases, thing):
    return is_tuple(thing, 2, 2) and is_within(thing[0], 0, phases - 1) and is_state_of(screen, thing[1])


def _keeps_clean(screen, channels, thing):
    """Whether a tuple is a TABLE that shows that no ZAP shows a false PICTURE."""
    phases = _phases_of(channels)
    if not all([_is_pair(screen, phases, pair) for pair in thing]) or not ascends(thing):
        return False
    known = _good_ones(screen, channels)
    pairs = {pair: True for pair in thing}
    if (0, first_state(screen)) not in pairs:
        return False
    for pair in thing:
        if pair[1][3] not in known:
            return False
        if not all([other in pairs for other in _pairs_behind(screen, channels, phases, pair)]):
            return False
    return True
