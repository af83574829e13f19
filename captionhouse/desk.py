"""A desk that is told lines, and answers them."""

from captionhouse.checks import number_in
from captionhouse.cuts import carried
from captionhouse.decoders import blank, first_state, led, need_screen
from captionhouse.errors import (BadChain, BadCode, BadCues, BadCuts, BadFile, BadPaper, BadRules, BadSize, BadSpoken,
                                 BadText, BadWords, Nothing, OutOfPlace, TooGreat)
from captionhouse.fewest import fewest_cues
from captionhouse.files import flat, need_file, seen
from captionhouse.plans import is_spoken_word, least_late, need_rules, plan, plan_file
from captionhouse.rates import moved_file
from captionhouse.sending import send_paper, text_of
from captionhouse.strokes import fewest
from captionhouse.texts import cue_in
from captionhouse.tuning import sure

DONE = "done"
NONE = "none"
MOST_CUT_NUMBERS = 20


class Board:
    """What lies on a desk: spoken words, rules, a file of cues, the size of a screen, and a tape with a stream."""

    def __init__(self):
        self.spoken = []
        self.rules = None
        self.file = ()
        self.size = None
        self.tape = None


# Each answer is told the words of a line behind the first one. It changes the
# board behind all that may be refused.


def _answer_word(board, parts):
    holds, begin, end = _numbers(parts[1:], 3)
    word = (parts[0], holds, begin, end)
    if not is_spoken_word(word):
        raise OutOfPlace("no spoken word")
    board.spoken.append(word)
    return DONE


def _answer_fresh(board, parts):
    _need_many(parts, 0)
    board.spoken = []
    return DONE


def _answer_rules(board, parts):
    board.rules = need_rules(tuple(_numbers(parts, 9)))
    return DONE


def _answer_plan(board, parts):
    _need_many(parts, 0)
    cues = plan(tuple(board.spoken), board.rules)
    if cues is None:
        return NONE
    return " ".join([f"{count}-{start}-{end}" for count, start, end in cues])


def _answer_late(board, parts):
    _need_many(parts, 0)
    return _number_or_none(least_late(tuple(board.spoken), board.rules))


def _answer_fewest(board, parts):
    _need_many(parts, 0)
    return _number_or_none(fewest_cues(tuple(board.spoken), board.rules))


def _answer_file(board, parts):
    _need_many(parts, 0)
    spoken = tuple(board.spoken)
    cues = plan(spoken, board.rules)
    if cues is None:
        return NONE
    board.file = plan_file(spoken, board.rules, cues)
    return DONE


def _answer_cue(board, parts):
    # The lines of a cue may have blanks beside each other. What tells no cue is None, which no file has.
    cue = cue_in(" ".join(parts))
    board.file = need_file(board.file + (cue,))
    return DONE


def _answer_bare(board, parts):
    _need_many(parts, 0)
    board.file = ()
    return DONE


def _answer_seen(board, parts):
    frame = _numbers(parts, 1)[0]
    text = seen(board.file, frame)
    if text is None:
        return NONE
    return "|".join(text)


def _answer_strokes(board, parts):
    _need_many(parts, 0)
    return str(fewest(board.file))


def _answer_cut(board, parts):
    if not 2 <= len(parts) <= MOST_CUT_NUMBERS or len(parts) % 2 == 1:
        raise OutOfPlace("no such line")
    frames = _numbers(parts, len(parts))
    board.file = need_file(carried(tuple(zip(frames[::2], frames[1::2])), board.file))
    return DONE


def _answer_rate(board, parts):
    _need_many(parts, 3)
    top, bottom = _numbers(parts[:2], 2)
    board.file = moved_file(((top, bottom, parts[2]),), board.file)
    return DONE


def _answer_screen(board, parts):
    board.size = need_screen(tuple(_numbers(parts, 2)))
    board.tape = None
    return DONE


def _answer_send(board, parts):
    _need_many(parts, 0)
    word, told = send_paper(board.size, flat(board.file))
    if word == "short":
        return f"short {told}"
    board.tape = told
    return DONE


def _answer_show(board, parts):
    frame = _numbers(parts, 1)[0]
    _need_frame(board, frame)
    picture = led(board.size, first_state(board.size), board.tape[:frame + 1])[3]
    if picture == blank(board.size):
        return NONE
    text = text_of(board.size, picture)
    if text is None:
        return "odd"
    return "|".join(text)


def _answer_tune(board, parts):
    begin, frame = _numbers(parts, 2)
    _need_frame(board, frame)
    if begin > frame:
        raise OutOfPlace("no code to tune in ahead of")
    rows = sure(board.size, board.tape[begin:frame + 1])
    many = len([sign for row in rows for sign in row if sign is None])
    if many == 0:
        return "sure"
    return str(many)


ANSWERS = {
    "word": _answer_word, "fresh": _answer_fresh, "rules": _answer_rules, "plan": _answer_plan, "late": _answer_late,
    "fewest": _answer_fewest, "file": _answer_file, "cue": _answer_cue, "bare": _answer_bare, "seen": _answer_seen,
    "strokes": _answer_strokes, "cut": _answer_cut, "rate": _answer_rate, "screen": _answer_screen,
    "send": _answer_send, "show": _answer_show, "tune": _answer_tune,
}


class Desk:
    """A desk without words, rules, cues, screen and stream at first."""

    def __init__(self):
        self._board = Board()

    def say(self, line):
        """The answer to a line; "no" to what is no line or is refused, which changes nothing."""
        if not isinstance(line, str):
            raise OutOfPlace("no string")
        word, *parts = line.split(" ")
        if word not in ANSWERS:
            return "no"
        answer = ANSWERS[word]
        try:
            return answer(self._board, parts)
        except (BadChain, BadCode, BadCues, BadCuts, BadFile, BadPaper, BadRules, BadSize, BadSpoken, BadText,
                BadWords, Nothing, OutOfPlace, TooGreat):
            return "no"

    @property
    def cues(self):
        """The cues, () without any."""
        return self._board.file

    @property
    def stream(self):
        """The stream, None without one."""
        return self._board.tape


def _need_many(parts, many):
    """Refuses another number of words behind the first one of a line."""
    if len(parts) != many:
        raise OutOfPlace("no such line")


def _numbers(parts, many):
    """The numbers that so many words tell."""
    _need_many(parts, many)
    numbers = [number_in(part) for part in parts]
    if None in numbers:
        raise OutOfPlace("no number")
    return numbers


def _number_or_none(number):
    if number is None:
        return NONE
    return str(number)


def _need_frame(board, frame):
    """Refuses what is no frame of the stream."""
    if board.tape is None or frame >= len(board.tape):
        raise OutOfPlace("no frame of the stream")
