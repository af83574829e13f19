"""Cut lists of a picture: what they show, what they carry, and which ones bring others back."""

from captionhouse.checks import is_integer, is_tuple, is_within
from captionhouse.errors import BadCuts, BadPaper, Nothing, OutOfPlace, TooGreat
from captionhouse.files import MOST_FRAME, flattened, joined_cues, need_file

MOST_STRETCHES = 60
MOST_LENGTH = 10 ** 12


def need_cuts(thing):
    """thing itself, if it is CUTS."""
    if not is_tuple(thing, 0, MOST_STRETCHES):
        raise BadCuts(None)
    total = 0
    for number, stretch in enumerate(thing):
        if not is_stretch(stretch):
            raise BadCuts(number)
        total += stretch[1] - stretch[0]
        if total > MOST_LENGTH:
            raise BadCuts(number)
    return thing


def length(cuts):
    """LENGTH of CUTS."""
    need_cuts(cuts)
    return length_of(cuts)


def source(cuts, frame):
    """The SOURCE of a new frame."""
    need_cuts(cuts)
    if not is_within(frame, 0, MOST_FRAME):
        raise OutOfPlace("no frame")
    if frame >= length_of(cuts):
        raise Nothing("no new frame")
    _, old = _place_of(cuts, frame)
    return old


def plain(cuts):
    """The PLAIN CUTS that are ALIKE."""
    need_cuts(cuts)
    return _joined(cuts)


def alike_cuts(one, other):
    """Whether two CUTS are ALIKE."""
    need_cuts(one)
    need_cuts(other)
    return _joined(one) == _joined(other)


def behind(first, second):
    """The PLAIN CUTS of second BEHIND first."""
    need_cuts(first)
    need_cuts(second)
    if not _end_within(second, length_of(first)):
        raise OutOfPlace("a stretch ends beyond the new picture")
    found = _shown_by(first, second)
    if len(found) > MOST_STRETCHES:
        raise TooGreat(MOST_STRETCHES)
    return found


def carried(cuts, file):
    """The FLAT FILE of what is SEEN of a FILE in the new picture."""
    need_cuts(cuts)
    need_file(file)
    cues = flattened((file,))
    found = []
    ahead = 0
    for start, end in cuts:
        for cue in cues:
            low = max(start, cue[0])
            high = min(end, cue[1])
            if low < high:
                found.append((low - start + ahead, high - start + ahead, cue[2]))
        ahead += end - start
    return joined_cues(found)


def twice(cuts):
    """The stretches of old frames that are SOURCES more than once."""
    need_cuts(cuts)
    bounds = _bounds_of(cuts)
    return _joined([pair for pair in zip(bounds, bounds[1:]) if _many_over(cuts, pair[0]) > 1])


def lost(cuts, end):
    """The stretches of old frames less than end that are no SOURCES."""
    need_cuts(cuts)
    if not is_within(end, 0, MOST_FRAME):
        raise OutOfPlace("no frame")
    return tuple(_not_shown(cuts, 0, end))


def bringing(cuts, wanted):
    """The fewest CUTS that BRING wanted back from cuts, or None."""
    need_cuts(cuts)
    need_cuts(wanted)
    found = _fewest_bringing(cuts, wanted)
    if found is None:
        return None
    return found[0]


def check_bringing(cuts, wanted, paper):
    """FEWEST of CUTS that BRING wanted back, if all of its paper is as told."""
    need_cuts(cuts)
    need_cuts(wanted)
    if not is_tuple(paper, 2, 2):
        raise BadPaper("form")
    found, stops = paper
    if not _brings(cuts, wanted, found):
        raise BadPaper("cuts")
    if not _are_stops(cuts, wanted, len(found), stops):
        raise BadPaper("stops")
    return len(found)


def bringing_paper(cuts, wanted):
    """A paper on the fewest CUTS that BRING wanted back."""
    need_cuts(cuts)
    need_cuts(wanted)
    found = _fewest_bringing(cuts, wanted)
    if found is None:
        raise Nothing("not each old frame that is wanted is a source")
    return found


def is_stretch(thing):
    """Whether thing can be a stretch of CUTS, by itself."""
    if not is_tuple(thing, 2, 2) or not is_within(thing[0], 0, MOST_FRAME):
        return False
    return is_within(thing[1], thing[0] + 1, MOST_FRAME)


def length_of(cuts):
    """How many frames the stretches have, all together."""
    return sum([end - start for start, end in cuts])


def _is_cuts(thing):
    if not is_tuple(thing, 0, MOST_STRETCHES) or not all([is_stretch(stretch) for stretch in thing]):
        return False
    return length_of(thing) <= MOST_LENGTH


def _end_within(cuts, end):
    return all([stretch[1] <= end for stretch in cuts])


def _joined(stretches):
    """The stretches, each one that begins where the one ahead ends being one with it."""
    found = []
    for start, end in stretches:
        if found and found[-1][1] == start:
            found[-1] = (found[-1][0], end)
        else:
            found.append((start, end))
    return tuple(found)


def _place_of(cuts, frame):
    """The number of the stretch that a new frame is of, and its SOURCE."""
    number = 0
    start, end = cuts[0]
    while frame >= end - start:
        frame -= end - start
        number += 1
        start, end = cuts[number]
    return (number, start + frame)


def _shown_by(first, second):
    """The PLAIN stretches of second BEHIND first, however many."""
    return _joined([part for start, end in second for part in _sources_of(first, start, end)])


def _sources_of(cuts, start, end):
    """The stretches of the SOURCES of the new frames from start up to end."""
    found = []
    ahead = 0
    for old_start, old_end in cuts:
        shift = old_start - ahead
        low = max(start, ahead)
        ahead += old_end - old_start
        high = min(end, ahead)
        if low < high:
            found.append((low + shift, high + shift))
    return found


def _bounds_of(cuts):
    """All old frames at which stretches begin or end, ascending."""
    return sorted({frame for stretch in cuts for frame in stretch})


def _many_over(cuts, frame):
    """How often an old frame is a SOURCE."""
    return len([start for start, end in cuts if start <= frame < end])


def _not_shown(cuts, start, end):
    """The stretches of old frames from start up to end that are no SOURCES.

    None touches the next one: where one stretch of cuts begins or ends there are SOURCES.
    """
    bounds = [start] + [frame for frame in _bounds_of(cuts) if start < frame < end] + [end]
    pairs = list(zip(bounds, bounds[1:]))
    return [pair for pair in pairs if pair[0] < pair[1] and _many_over(cuts, pair[0]) == 0]


def _fewest_bringing(cuts, wanted):
    """The fewest CUTS that BRING wanted back, and the STOPS; None if there are none."""
    if any([_not_shown(cuts, start, end) for start, end in wanted]):
        return None
    shown = _joined(cuts)
    asked = _joined(wanted)
    total = length_of(asked)
    found = []
    stops = []
    stop = 0
    while stop < total:
        if len(found) == MOST_STRETCHES:
            raise TooGreat(MOST_STRETCHES)
        start, many = _longest_from(shown, asked, stop)
        found.append((start, start + many))
        stops.append(stop)
        stop += many
    return (tuple(found), tuple(stops))


def _longest_from(shown, asked, stop):
    """Where the longest stretch begins that shows what asked shows from a new frame on, and its length.

    Both are PLAIN, and the SOURCE of the frame is one of shown, too.
    """
    number, old = _place_of(asked, stop)
    longest = (0, 0)
    ahead = 0
    for place, (start, end) in enumerate(shown):
        if start <= old < end:
            many = _common_length(shown[place:], asked[number:], old)
            if many > longest[1]:
                longest = (ahead + old - start, many)
        ahead += end - start
    return longest


def _common_length(one, other, old):
    """How many frames two PLAIN tuples of stretches show alike, from an old frame of the first of each on."""
    many = 0
    for (start, end), (other_start, other_end) in zip(one, other):
        if many > 0:
            if start != other_start:
                return many
            old = start
        many += min(end, other_end) - old
        # What is PLAIN shows another frame behind its stretch than a longer one goes on with.
        if end != other_end:
            return many
    return many


def _brings(cuts, wanted, thing):
    """Whether thing is CUTS that BRING wanted back from cuts."""
    if not _is_cuts(thing) or not _end_within(thing, length_of(cuts)):
        return False
    return _shown_by(cuts, thing) == _joined(wanted)


def _are_stops(cuts, wanted, many, thing):
    """Whether thing is so many STOPS; each old frame of wanted is a SOURCE of cuts."""
    if not is_tuple(thing, many, many) or not all([is_integer(stop) for stop in thing]):
        return False
    if many == 0:
        return True
    pairs = list(zip(thing, thing[1:]))
    if thing[0] != 0 or thing[-1] >= length_of(wanted) or not all([stop < beyond for stop, beyond in pairs]):
        return False
    shown = _joined(cuts)
    asked = _joined(wanted)
    return all([stop + _longest_from(shown, asked, stop)[1] <= beyond for stop, beyond in pairs])
