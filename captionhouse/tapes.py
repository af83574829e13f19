"""Texts of streams, written and read."""

from captionhouse.checks import number_in
from captionhouse.decoders import MOST_CODES, is_code_of, need_codes, need_screen
from captionhouse.errors import BadText
from captionhouse.texts import lines_in

PUT = "put"


def stream_text(screen, codes):
    """The text of a STREAM."""
    need_screen(screen)
    need_codes(screen, codes)
    return "\n".join([" ".join([str(part) for part in code]) for code in codes])


def read_stream(screen, string):
    """The STREAM of a text."""
    need_screen(screen)
    codes = []
    for number, line in enumerate(lines_in(string), 1):
        code = _code_in(line)
        if number > MOST_CODES or not is_code_of(screen, code):
            raise BadText(number)
        codes.append(code)
    return tuple(codes)


def _code_in(line):
    """What a line tells, which may be no CODE."""
    word, _, rest = line.partition(" ")
    if word == PUT:
        return (word, rest)
    parts = line.split(" ")
    return (word,) + tuple([number_in(part) for part in parts[1:]])
