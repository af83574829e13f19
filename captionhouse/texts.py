"""Texts of files and of cut lists, written and read."""

from captionhouse.checks import number_in
from captionhouse.cuts import MOST_LENGTH, MOST_STRETCHES, is_stretch, need_cuts
from captionhouse.errors import BadText, OutOfPlace
from captionhouse.files import MOST_CUES, is_cue, need_file


def file_text(file):
    """The text of a FILE."""
    need_file(file)
    if any(["|" in line for cue in file for line in cue[2]]):
        raise OutOfPlace("a line has the sign that stands between two")
    return "\n".join([_line_of(cue) for cue in file])


def cuts_text(cuts):
    """The text of CUTS."""
    need_cuts(cuts)
    return "\n".join([f"{start} {end}" for start, end in cuts])


def read_file(string):
    """The FILE of a text."""
    cues = []
    for number, line in enumerate(lines_in(string), 1):
        cue = cue_in(line)
        if cue is None or number > MOST_CUES:
            raise BadText(number)
        cues.append(cue)
    return tuple(cues)


def read_cuts(string):
    """The CUTS of a text."""
    cuts = []
    for number, line in enumerate(lines_in(string), 1):
        stretch = _stretch_in(line)
        if stretch is None or number > MOST_STRETCHES:
            raise BadText(number)
        cuts.append(stretch)
    # Whether all together are too long is asked behind each line by itself.
    total = 0
    for number, (start, end) in enumerate(cuts, 1):
        total += end - start
        if total > MOST_LENGTH:
            raise BadText(number)
    return tuple(cuts)


def lines_in(string):
    """The lines of a text, of which an empty one has none."""
    if not isinstance(string, str):
        raise BadText(0)
    if string == "":
        return []
    return string.split("\n")


def cue_in(line):
    """The cue that a line tells, or None."""
    start, _, rest = line.partition(" ")
    end, _, text = rest.partition(" ")
    cue = (number_in(start), number_in(end), tuple(text.split("|")))
    if is_cue(cue):
        return cue
    return None


def _line_of(cue):
    start, end, text = cue
    return f"{start} {end} " + "|".join(text)


def _stretch_in(line):
    """The stretch that a line tells, or None."""
    start, _, end = line.partition(" ")
    stretch = (number_in(start), number_in(end))
    if is_stretch(stretch):
        return stretch
    return None
