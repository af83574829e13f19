"""Cues that are sent by streams, put off where they must be, and what streams show."""

from captionhouse.cells import BLANK_SIGN
from captionhouse.checks import is_integer, is_one_of, is_tuple, is_within
from captionhouse.decoders import are_codes, blank, is_memory_of, need_screen, pictures
from captionhouse.errors import BadCues, BadPaper, OutOfPlace
from captionhouse.files import is_text

MOST_SENDABLE = 200
LAST_FRAME = 1999


def load(screen, text):
    """The LOAD of a TEXT."""
    _need_text(screen, text)
    return _load_of(text)


def picture_of(screen, text):
    """The PICTURE of a TEXT."""
    _need_text(screen, text)
    return _picture_of(screen, text)


def text_of(screen, picture):
    """The TEXT of a PICTURE, or None."""
    need_screen(screen)
    if not is_memory_of(screen, picture):
        raise OutOfPlace("no memory")
    lines = [row.rstrip(BLANK_SIGN) for row in picture]
    while lines and lines[-1] == "":
        lines.pop()
    if not is_text(tuple(lines)):
        return None
    return tuple(lines)


def send_paper(screen, cues):
    """A paper on whether CUES can be SENT."""
    _need_cues(screen, cues)
    short = _first_short(cues)
    if short is not None:
        return ("short", short)
    return ("stream", _stream_of(cues))


def check_send(screen, cues, paper):
    """The word of a paper on whether CUES can be SENT, if all of it is as told."""
    _need_cues(screen, cues)
    if not is_tuple(paper, 2, 2) or not is_one_of(paper[0], ("stream", "short")):
        raise BadPaper("form")
    word, told = paper
    if word == "stream" and not _sends(screen, cues, told):
        raise BadPaper("stream")
    if word == "short" and not (is_integer(told) and told == _first_short(cues)):
        raise BadPaper("short")
    return word


def put_off(screen, cues):
    """The CUES, each put off as little as it can be so that they can be SENT, or None."""
    _need_cues(screen, cues)
    found = []
    ahead = None
    for cue in cues:
        start = cue[0]
        while start < cue[1] and _free_frames(ahead, start) < len(_load_of(cue[2])):
            start += 1
        if start == cue[1]:
            return None
        ahead = (start, cue[1], cue[2])
        found.append(ahead)
    return tuple(found)


def shows(screen, codes):
    """What a STREAM shows: (FROM, TO, PICTURE) of each longest row of frames with one that is not BLANK."""
    empty = blank(screen)
    found = []
    ahead = empty
    for frame, picture in enumerate(pictures(screen, codes)):
        if picture != empty and picture == ahead:
            found[-1] = (found[-1][0], frame + 1, picture)
        elif picture != empty:
            found.append((frame, frame + 1, picture))
        ahead = picture
    return tuple(found)


def _need_text(screen, text):
    need_screen(screen)
    if not _has_room(screen, text):
        raise OutOfPlace("no text that the screen has room for")


def _need_cues(screen, cues):
    need_screen(screen)
    if not is_tuple(cues, 0, MOST_SENDABLE):
        raise BadCues(None)
    free = 0
    for number, cue in enumerate(cues):
        if not _is_sendable(screen, cue) or cue[0] < free:
            raise BadCues(number)
        free = cue[1]


def _is_sendable(screen, thing):
    """Whether thing can be a cue that is sent, by itself."""
    if not is_tuple(thing, 3, 3) or not is_within(thing[0], 0, LAST_FRAME):
        return False
    return is_within(thing[1], thing[0] + 1, LAST_FRAME) and _has_room(screen, thing[2])


def _has_room(screen, thing):
    """Whether thing is a TEXT that the SCREEN has room for."""
    rows, columns = screen
    return is_text(thing) and len(thing) <= rows and all([len(line) <= columns for line in thing])


def _load_of(text):
    codes = [("hide",), ("clear",)]
    for row, line in enumerate(text):
        codes.append(("at", row, 0))
        codes.extend([("put", sign) for sign in line])
    return tuple(codes)


def _picture_of(screen, text):
    rows, columns = screen
    empty = BLANK_SIGN * columns
    lines = [(line + empty)[:columns] for line in text]
    return tuple(lines + [empty] * (rows - len(lines)))


def _free_frames(ahead, start):
    """How many frames have no CODE yet ahead of a "swap" and behind that of the cue ahead, or None if it is the first.

    Where that cue does not end with the new one there is a "wipe" between them.
    """
    if ahead is None:
        return start
    between = start - ahead[0] - 1
    if ahead[1] < start:
        return between - 1
    return between


def _first_short(cues):
    """The number of the first cue that has not as many free frames as its LOAD has CODES, or None."""
    ahead = None
    for number, cue in enumerate(cues):
        if _free_frames(ahead, cue[0]) < len(_load_of(cue[2])):
            return number
        ahead = cue
    return None


def _stream_of(cues):
    """The STREAM by which CUES are SENT that have room."""
    if not cues:
        return ()
    codes = [None] * (cues[-1][1] + 1)
    for start, end, _ in cues:
        # A "wipe" at the next FROM gives way to the "swap" there.
        codes[start] = ("swap",)
        codes[end] = ("wipe",)
    for start, _, text in cues:
        left = list(_load_of(text))
        frame = start - 1
        while left:
            if codes[frame] is None:
                codes[frame] = left.pop()
            frame -= 1
    return tuple([("idle",) if code is None else code for code in codes])


def _sends(screen, cues, thing):
    """Whether thing is a STREAM, as long as told, that shows at each frame what CUES tell."""
    many = 0
    if cues:
        many = cues[-1][1] + 1
    if not are_codes(screen, thing, many, many):
        return False
    told = [blank(screen)] * many
    for start, end, text in cues:
        told[start:end] = [_picture_of(screen, text)] * (end - start)
    return list(pictures(screen, thing)) == told
