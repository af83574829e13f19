"""What who tunes in is sure of, and whether an endless stream settles."""

from captionhouse.checks import is_integer, is_one_of, is_tuple, is_within
from captionhouse.decoders import need_codes
from captionhouse.errors import BadPaper, OutOfPlace
from captionhouse.summaries import first_threads, need_small_screen, threads_behind, threads_one_on

MOST_RING = 400
MOST_BEGIN = 4000
MOST_TOLD = 9999


def sure(screen, codes):
    """The signs of the cells of SHOWN that are SURE behind a STREAM, rows of them, None for each other one."""
    need_small_screen(screen)
    need_codes(screen, codes)
    return sure_rows(screen, codes)


def settled(screen, head, ring, begin):
    """Behind how many CODES an ENDLESS STREAM settles for who tunes in ahead of one, or None."""
    paper = settle_paper(screen, head, ring, begin)
    if paper[0] == "settles":
        return paper[1]
    return None


def settle_paper(screen, head, ring, begin):
    """A paper on whether an ENDLESS STREAM settles."""
    _need_endless(screen, head, ring, begin)
    low, flags = _round_of_flags(screen, (head, ring), begin)
    high = len(flags)
    if not all(flags[low:]):
        return ("never", low + flags[low:].index(False), low, high)
    many = low
    while many > 0 and flags[many - 1]:
        many -= 1
    return ("settles", many, low, high)


def check_settle(screen, head, ring, begin, paper):
    """The word of a paper on whether an ENDLESS STREAM settles, if all of it is as told."""
    _need_endless(screen, head, ring, begin)
    if not _has_form(paper):
        raise BadPaper("form")
    word, many, low, high = paper
    if low >= high or begin + low < len(head) or (high - low) % len(ring) != 0:
        raise BadPaper(word)
    rounds, flags = _watched(screen, (head, ring), begin, (low, high))
    if rounds[0] != rounds[1] or not _is_told(word, many, low, flags):
        raise BadPaper(word)
    return word


def sure_rows(screen, codes):
    """What sure tells, of a small SCREEN and a STREAM of it."""
    rows, columns = screen
    threads = threads_behind(screen, codes)
    cells = [_sure_sign(threads, cell) for cell in range(rows * columns)]
    return tuple([tuple(cells[row * columns:(row + 1) * columns]) for row in range(rows)])


def is_all_sure(screen, threads):
    """Whether each cell of SHOWN is SURE behind a STREAM, whose threads are told."""
    half = screen[0] * screen[1]
    if len({thread[1][:half] for thread in threads}) > 1:
        return False
    return all([isinstance(cell, str) for cell in threads[0][1][:half]])


def _sure_sign(threads, cell):
    """The sign that a cell of STATES has in all threads; None if it is not the same."""
    sign = threads[0][1][cell]
    if isinstance(sign, str) and all([thread[1][cell] == sign for thread in threads]):
        return sign
    return None


def _need_endless(screen, head, ring, begin):
    need_small_screen(screen)
    need_codes(screen, head)
    need_codes(screen, ring, 1, MOST_RING)
    if not is_within(begin, 0, MOST_BEGIN):
        raise OutOfPlace("no number to tune in ahead of")


def _code_at(endless, number):
    head, ring = endless
    if number < len(head):
        return head[number]
    return ring[(number - len(head)) % len(ring)]


def _round_of_flags(screen, endless, begin):
    """I, and whether all is SURE behind each number of CODES less than J.

    The SUMMARIES of the first I CODES from begin on and of the first J are the
    same, and what comes behind them is, too.
    """
    head, ring = endless
    start = max(0, len(head) - begin)
    threads = first_threads(screen)
    seen = {}
    flags = []
    while True:
        number = len(flags)
        if number >= start and (number - start) % len(ring) == 0:
            now = tuple(threads)
            if now in seen:
                return (seen[now], flags)
            seen[now] = number
        flags.append(is_all_sure(screen, threads))
        threads = threads_one_on(screen, threads, _code_at(endless, begin + number))


def _watched(screen, endless, begin, numbers):
    """The threads behind two numbers of CODES, and whether all is SURE behind each less than the second one."""
    threads = first_threads(screen)
    kept = []
    flags = []
    for number in range(numbers[1]):
        if number == numbers[0]:
            kept.append(threads)
        flags.append(is_all_sure(screen, threads))
        threads = threads_one_on(screen, threads, _code_at(endless, begin + number))
    kept.append(threads)
    return (kept, flags)


def _has_form(thing):
    if not is_tuple(thing, 4, 4) or not is_one_of(thing[0], ("settles", "never")) or not is_integer(thing[1]):
        return False
    return is_within(thing[2], 0, MOST_TOLD) and is_within(thing[3], 0, MOST_TOLD)


def _is_told(word, many, low, flags):
    """Whether what a paper tells of a number of CODES is so; flags are those of all less than J."""
    if word == "never":
        return low <= many < len(flags) and not flags[many]
    if not 0 <= many <= low or not all(flags[many:]):
        return False
    return many == 0 or not flags[many - 1]
