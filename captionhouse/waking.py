"""What one knows who has tuned in, and streams behind which all is sure."""

from captionhouse.cells import stepped
from captionhouse.checks import ascends, is_tuple, is_word_and_tuple
from captionhouse.decoders import are_codes, is_cell_sign, is_control, need_code, need_codes
from captionhouse.errors import BadPaper, OutOfPlace
from captionhouse.search import searched
from captionhouse.summaries import controls, need_small_screen

MOST_CHOICE = 8
MOST_KNOWLEDGES = 2000
NOT_KNOWN = ""


class Pairs:
    """Numbers for pairs (CONTROL, CELLS), each of which is led by each CODE of a CHOICE once.

    A row is the ascending tuple of the numbers of the pairs of a KNOWLEDGE.
    """

    def __init__(self, screen, choice):
        self.half = screen[0] * screen[1]
        self._screen = screen
        self._choice = choice
        self._pairs = []
        self._numbers = {}
        self._behind = {}

    def row_of(self, known):
        """The row of a KNOWLEDGE."""
        return tuple(sorted([self._number_of(pair) for pair in known]))

    def knowledge_of(self, row):
        """The KNOWLEDGE of a row."""
        return tuple(sorted([self._pairs[number] for number in row]))

    def rows_behind(self, row):
        """The rows behind each CODE of CHOICE."""
        behind = [self._numbers_behind(number) for number in row]
        return [tuple(sorted({numbers[place] for numbers in behind})) for place in range(len(self._choice))]

    def is_sure(self, row):
        """Whether all is SURE in a KNOWLEDGE, told by its row."""
        shown = self._pairs[row[0]][1][:self.half]
        return NOT_KNOWN not in shown and all([self._pairs[number][1][:self.half] == shown for number in row])

    def _number_of(self, pair):
        if pair not in self._numbers:
            self._numbers[pair] = len(self._pairs)
            self._pairs.append(pair)
        return self._numbers[pair]

    def _numbers_behind(self, number):
        if number not in self._behind:
            control, cells = self._pairs[number]
            pairs = [stepped(self._screen, control, cells, code) for code in self._choice]
            self._behind[number] = [self._number_of(pair) for pair in pairs]
        return self._behind[number]


def knowledge(screen, codes):
    """The KNOWLEDGE of one who has tuned in ahead of a STREAM, behind it."""
    need_small_screen(screen)
    need_codes(screen, codes)
    known = _first_knowledge(screen)
    for code in codes:
        known = _one_on(screen, known, code)
    return known


def later(screen, value, code):
    """The KNOWLEDGE that comes of one by a CODE."""
    need_small_screen(screen)
    if not _is_knowledge(screen, value):
        raise OutOfPlace("no knowledge")
    need_code(screen, code)
    return _one_on(screen, value, code)


def waking(screen, choice):
    """A STREAM of CODES of CHOICE that wakes, with as few as any, or None."""
    word, found = waking_paper(screen, choice)
    if word == "wakes":
        return found
    return None


def waking_paper(screen, choice):
    """A paper on whether a STREAM of CODES of CHOICE wakes."""
    _need_choice(screen, choice)
    pairs = Pairs(screen, choice)
    way, rows = _searched(pairs, pairs.row_of(_first_knowledge(screen)))
    if way is not None:
        return ("wakes", tuple([choice[place] for place in way]))
    return ("asleep", tuple(sorted([pairs.knowledge_of(row) for row in rows])))


def check_waking(screen, choice, paper):
    """The word of a paper on whether a STREAM of CODES of CHOICE wakes, if all of it is as told."""
    _need_choice(screen, choice)
    if not is_word_and_tuple(paper, ("wakes", "asleep")):
        raise BadPaper("form")
    word, told = paper
    if word == "wakes" and not _wakes(screen, choice, told):
        raise BadPaper("wakes")
    if word == "asleep" and not _stays_asleep(screen, choice, told):
        raise BadPaper("asleep")
    return word


def _need_choice(screen, choice):
    need_small_screen(screen)
    if not are_codes(screen, choice, 1, MOST_CHOICE) or not ascends(choice):
        raise OutOfPlace("no choice of codes")


def _first_knowledge(screen):
    """The KNOWLEDGE behind no CODES."""
    cells = (NOT_KNOWN,) * (2 * screen[0] * screen[1])
    return tuple([(control, cells) for control in controls(screen)])


def _one_on(screen, known, code):
    """The KNOWLEDGE that comes of one by a CODE, both being such."""
    return tuple(sorted({stepped(screen, control, cells, code) for control, cells in known}))


def _is_knowledge(screen, thing):
    """Whether thing has the form of a KNOWLEDGE."""
    if not isinstance(thing, tuple) or len(thing) == 0 or not all([_is_pair(screen, pair) for pair in thing]):
        return False
    return ascends(thing)


def _is_pair(screen, thing):
    """Whether thing is a CONTROL and a tuple with a sign or an empty string for each cell."""
    many = 2 * screen[0] * screen[1]
    if not is_tuple(thing, 2, 2) or not is_control(screen, thing[0]) or not is_tuple(thing[1], many, many):
        return False
    return all([isinstance(cell, str) and (cell == NOT_KNOWN or is_cell_sign(cell)) for cell in thing[1]])


def _searched(pairs, first):
    """The way to the nearest row that is SURE, or None, and all rows that come then."""
    def follow(row):
        return pairs.rows_behind(row)

    def is_wanted(row):
        return pairs.is_sure(row)

    return searched(first, follow, is_wanted, MOST_KNOWLEDGES)


def _wakes(screen, choice, thing):
    """Whether a tuple is a STREAM of CODES of CHOICE that wakes."""
    if not are_codes(screen, thing) or not all([code in choice for code in thing]):
        return False
    pairs = Pairs(screen, choice)
    return pairs.is_sure(pairs.row_of(knowledge(screen, thing)))


def _stays_asleep(screen, choice, thing):
    """Whether a tuple is a TABLE that shows that no STREAM of CODES of CHOICE wakes."""
    if not all([_is_knowledge(screen, known) for known in thing]) or not ascends(thing):
        return False
    pairs = Pairs(screen, choice)
    rows = {pairs.row_of(known): True for known in thing}
    if pairs.row_of(_first_knowledge(screen)) not in rows:
        return False
    for row in rows:
        if pairs.is_sure(row) or not all([behind in rows for behind in pairs.rows_behind(row)]):
            return False
    return True
