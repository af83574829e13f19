"""Flat files that are mended, so that each cue is long enough, or the bars that keep them from being."""

from captionhouse.checks import is_one_of, is_tuple, is_within
from captionhouse.errors import BadPaper, OutOfPlace
from captionhouse.files import MOST_FRAME, is_cue, is_flat

MOST_LEAST = 10 ** 9
MOST_GAP = 10 ** 9


def mended(file, end, least, gap):
    """The FILE that is MENDED to the left, or None."""
    _need_arguments(file, end, least, gap)
    cues = []
    free = 0
    for start, stop, text in file:
        if free > start:
            return None
        stop = max(stop, free + least)
        cues.append((min(start, stop - least), stop, text))
        free = stop + gap
    if cues and cues[-1][1] > end:
        return None
    return tuple(cues)


def mending_paper(file, end, least, gap):
    """A paper on whether a FLAT FILE can be MENDED."""
    found = mended(file, end, least, gap)
    if found is not None:
        return ("mended", found)
    bars = [(low, high) for high in range(len(file) + 1) for low in range(high + 1)
            if _is_bar(file, end, (least, gap), low, high)]
    low, high = bars[0]
    return ("bar", low, high)


def check_mending(file, end, least, gap, paper):
    """The word of a paper on whether a FLAT FILE can be MENDED, if all of it is as told."""
    _need_arguments(file, end, least, gap)
    if is_tuple(paper, 2, 2) and is_one_of(paper[0], ("mended",)):
        if not _is_mended(file, end, (least, gap), paper[1]):
            raise BadPaper("mended")
    elif is_tuple(paper, 3, 3) and is_one_of(paper[0], ("bar",)):
        _, low, high = paper
        if not is_within(high, 0, len(file)) or not is_within(low, 0, high):
            raise BadPaper("bar")
        if not _is_bar(file, end, (least, gap), low, high):
            raise BadPaper("bar")
    else:
        raise BadPaper("form")
    return paper[0]


def _need_arguments(file, end, least, gap):
    if not is_flat(file):
        raise OutOfPlace("no flat file")
    if not is_within(end, 0, MOST_FRAME):
        raise OutOfPlace("no frame")
    if not is_within(least, 1, MOST_LEAST):
        raise OutOfPlace("no least length")
    if not is_within(gap, 0, MOST_GAP):
        raise OutOfPlace("no gap")


def _is_mended(file, end, lengths, thing):
    """Whether thing is cues with the texts of file, over its own and as far apart as told."""
    least, gap = lengths
    if not is_tuple(thing, len(file), len(file)) or not all([is_cue(cue) for cue in thing]):
        return False
    free = 0
    for cue, old in zip(thing, file):
        if cue[2] != old[2] or cue[0] > old[0] or cue[1] < old[1]:
            return False
        if cue[1] - cue[0] < least or cue[0] < free:
            return False
        free = cue[1] + gap
    return len(thing) == 0 or thing[-1][1] <= end


def _is_bar(file, end, lengths, low, high):
    """Whether the cues from low on, up to high, want more frames than there are."""
    least, gap = lengths
    wanted = (high - low) * (least + gap)
    if low > 0:
        wanted += file[low - 1][1] + gap
    if high < len(file):
        return wanted > file[high][0]
    return wanted > end + gap
