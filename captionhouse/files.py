"""Files of cues, and what is seen of them."""

from captionhouse.checks import has_signs, is_tuple, is_within
from captionhouse.errors import BadFile, OutOfPlace

MOST_CUES = 60
MOST_FLAT_CUES = 119
MOST_LINES = 4
MOST_FRAME = 10 ** 12
LOWEST_OF_LINES = 32


def need_file(thing):
    """thing itself, if it is a FILE."""
    if not is_tuple(thing, 0, MOST_CUES):
        raise BadFile(None)
    for number, cue in enumerate(thing):
        if not is_cue(cue):
            raise BadFile(number)
    return thing


def seen(file, frame):
    """The TEXT that is SEEN at a frame, or None."""
    need_file(file)
    if not is_within(frame, 0, MOST_FRAME):
        raise OutOfPlace("no frame")
    return text_at(file, frame)


def flat(file):
    """The FLAT FILE that is ALIKE."""
    need_file(file)
    return flattened((file,))


def is_flat(thing):
    """Whether any value is a FLAT tuple of cues, at most 119."""
    if not is_tuple(thing, 0, MOST_FLAT_CUES) or not all([is_cue(cue) for cue in thing]):
        return False
    return all([_may_follow(ahead, cue) for ahead, cue in zip(thing, thing[1:])])


def alike(one, other):
    """Whether two FILES are ALIKE."""
    return apart(one, other) is None


def apart(one, other):
    """The first frame at which unlike things are SEEN, or None."""
    need_file(one)
    need_file(other)
    for frame in _bounds_of((one, other)):
        if text_at(one, frame) != text_at(other, frame):
            return frame
    return None


def laid(upper, lower):
    """The FLAT FILE of upper LAID over lower."""
    need_file(upper)
    need_file(lower)
    return flattened((upper, lower))


def is_cue(thing):
    """Whether thing can be a cue of a FILE."""
    if not is_tuple(thing, 3, 3) or not is_within(thing[0], 0, MOST_FRAME):
        return False
    return is_within(thing[1], thing[0] + 1, MOST_FRAME) and is_text(thing[2])


def is_text(thing):
    """Whether thing is a TEXT."""
    return is_tuple(thing, 1, MOST_LINES) and all([_is_line(line) for line in thing])


def is_file(thing):
    """Whether thing is a FILE."""
    return is_tuple(thing, 0, MOST_CUES) and all([is_cue(cue) for cue in thing])


def text_at(cues, frame):
    """The TEXT of cues that is SEEN at a frame, or None."""
    top = None
    for cue in cues:
        if cue[0] <= frame < cue[1] and (top is None or cue[0] >= top[0]):
            top = cue
    if top is None:
        return None
    return top[2]


def flattened(layers):
    """The FLAT cues of what is SEEN of the first of some tuples of cues that has something there."""
    cues = []
    bounds = _bounds_of(layers)
    for start, end in zip(bounds, bounds[1:]):
        text = _text_of_layers(layers, start)
        if text is not None:
            cues.append((start, end, text))
    return joined_cues(cues)


def joined_cues(cues):
    """The FLAT cues of such as stand one behind the other: those that touch with the same TEXT are one."""
    found = []
    for start, end, text in cues:
        if found and found[-1][1:] == (start, text):
            found[-1] = (found[-1][0], end, text)
        else:
            found.append((start, end, text))
    return tuple(found)


def _text_of_layers(layers, frame):
    for cues in layers:
        text = text_at(cues, frame)
        if text is not None:
            return text
    return None


def _bounds_of(layers):
    """All frames at which cues begin or end, ascending: between two of them nothing changes."""
    return sorted({frame for cues in layers for cue in cues for frame in cue[:2]})


def _may_follow(ahead, cue):
    """Whether a cue may stand behind another one in what is FLAT."""
    return cue[0] > ahead[1] or (cue[0] == ahead[1] and cue[2] != ahead[2])


def _is_line(thing):
    return has_signs(thing, LOWEST_OF_LINES) and thing[0] != " " and thing[-1] != " "
