"""Files with the fewest cues, which may go on under others, and the papers on them."""

from captionhouse.checks import is_integer, is_tuple
from captionhouse.errors import BadPaper
from captionhouse.files import apart, flat, is_file, need_file


def fewest(file):
    """FEWEST of a FILE."""
    return _greatest(_best_bounds(flat(file)))


def fewest_file(file):
    """An ALIKE FILE with the fewest cues."""
    cues = flat(file)
    return _file_of(cues, _best_bounds(cues))


def strokes_paper(file):
    """A paper on FEWEST of a FILE."""
    cues = flat(file)
    bounds = _best_bounds(cues)
    return (_file_of(cues, bounds), tuple([tuple(row) for row in bounds]))


def check_strokes(file, paper):
    """FEWEST of a FILE, if all of its paper is as told.

    That no ALIKE FILE has fewer cues than the one of the paper is for BOUNDS
    to show.
    """
    need_file(file)
    if not is_tuple(paper, 2, 2):
        raise BadPaper("form")
    found, bounds = paper
    if not is_file(found) or apart(found, file) is not None:
        raise BadPaper("file")
    if not _are_bounds(flat(file), bounds) or _greatest(bounds) != len(found):
        raise BadPaper("bounds")
    return len(found)


def _greatest(bounds):
    """BOUND(0, M - 1), or 0 without cues."""
    if len(bounds) == 0:
        return 0
    return bounds[0][-1]


def _best_bounds(cues):
    """The greatest BOUNDS of FLAT cues, rows of BOUND(I, J) for each J from I on."""
    bounds = [[] for _ in cues]
    partners = _all_partners(cues)
    for low in reversed(range(len(cues))):
        for high in range(low, len(cues)):
            bounds[low].append(_most_of(bounds, partners[high], low, high))
    return bounds


def _all_partners(cues):
    """For each cue those ahead of it, the nearest first, that might go on and be SEEN as it."""
    partners = []
    for high in range(len(cues)):
        found = []
        low = high - 1
        while low >= 0 and cues[low][1] == cues[low + 1][0]:
            if cues[low][2] == cues[high][2]:
                found.append(low)
            low -= 1
        partners.append(found)
    return partners


def _most_of(bounds, partners, low, high):
    """How great BOUND(low, high) may be, told by those of fewer cues."""
    if low == high:
        return 1
    joined = [_joined(bounds, low, partner, high) for partner in partners if partner >= low]
    return min([bounds[low][high - 1 - low] + 1, *joined])


def _joined(bounds, low, partner, high):
    """The cues from low to high, if the partner goes on to the end of high."""
    many = bounds[low][partner - low]
    if partner + 1 < high:
        many += bounds[partner + 1][high - partner - 2]
    return many


def _file_of(cues, bounds):
    """The FILE of as many cues as the greatest BOUNDS tell."""
    partners = _all_partners(cues)
    goes_on = [None] * len(cues)
    ranges = [(0, len(cues) - 1)]
    while ranges:
        low, high = ranges.pop()
        if low <= high:
            partner = _partner_in(bounds, partners[high], low, high)
            goes_on[high] = partner
            if partner is None:
                ranges.append((low, high - 1))
            else:
                ranges.append((low, partner))
                ranges.append((partner + 1, high - 1))
    return _strokes(cues, goes_on)


def _partner_in(bounds, partners, low, high):
    """The cue that goes on to the end of high, or None if high is a cue of its own."""
    for partner in partners:
        if partner >= low and _joined(bounds, low, partner, high) == bounds[low][high - low]:
            return partner
    return None


def _strokes(cues, goes_on):
    """The cues, each one that another one goes on to being one with it."""
    ends = [cue[1] for cue in cues]
    strokes = []
    for place in reversed(range(len(cues))):
        if goes_on[place] is None:
            strokes.append((cues[place][0], ends[place], cues[place][2]))
        else:
            ends[goes_on[place]] = ends[place]
    return tuple(strokes[::-1])


def _are_bounds(cues, thing):
    """Whether thing is BOUNDS of FLAT cues, but for the number of cues that they show."""
    if not is_tuple(thing, len(cues), len(cues)):
        return False
    for low, row in enumerate(thing):
        wide = len(cues) - low
        if not is_tuple(row, wide, wide) or not all([is_integer(bound) for bound in row]):
            return False
    partners = _all_partners(cues)
    return all([_is_row(thing, partners, low) for low in range(len(cues))])


def _is_row(bounds, partners, low):
    """Whether no BOUND(low, J) is greater than it may be."""
    for place, bound in enumerate(bounds[low]):
        if bound > _most_of(bounds, partners[low + place], low, low + place):
            return False
    return True
