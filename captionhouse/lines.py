"""Words, broken into lines."""

from captionhouse.checks import are_counts, has_signs, is_integer, is_tuple, is_within
from captionhouse.errors import BadWords, Nothing, OutOfPlace

MOST_WORDS = 60
MOST_ROWS = 4
MOST_COLUMNS = 40
LOWEST_OF_WORDS = 33


def is_word(thing):
    """Whether thing is a WORD."""
    return has_signs(thing, LOWEST_OF_WORDS)


def is_hold(thing):
    """Whether thing is a HOLDS, 0 or 1."""
    return is_within(thing, 0, 1)


def need_words(thing):
    """thing itself, if it is WORDS."""
    if not is_tuple(thing, 1, MOST_WORDS):
        raise BadWords(None)
    for number, pair in enumerate(thing):
        if not (is_tuple(pair, 2, 2) and is_word(pair[0]) and is_hold(pair[1])):
            raise BadWords(number)
    if thing[-1][1] == 1:
        raise BadWords(len(thing) - 1)
    return thing


def fits(words, size):
    """Whether some BREAKING of words FITS size."""
    need_words(words)
    need_size(size)
    return can_stand(words, size[0], size[1])


def best(words, size):
    """The BEST BREAKING of words in size, or None."""
    need_words(words)
    need_size(size)
    rows = rows_needed(words, size[1])
    if rows is None or rows > size[0]:
        return None
    columns = _least_columns(words, rows)
    ends = _all_line_ends(words, columns)
    return _numbered(ends, _ways(ends, rows), 0)


def lines_of(words, breaking):
    """The tuple of the LINES of a BREAKING of words."""
    need_words(words)
    if not _is_breaking(words, breaking):
        raise OutOfPlace("no breaking of the words")
    return _lines(words, breaking)


def many_breakings(words, size):
    """How many BREAKINGS of words FIT size."""
    need_words(words)
    need_size(size)
    return _ways(_all_line_ends(words, size[1]), size[0])[-1][0]


def breakings(words, size):
    """All BREAKINGS of words that FIT size, ascending."""
    need_words(words)
    need_size(size)
    ends = _all_line_ends(words, size[1])
    ways = _ways(ends, size[0])
    for number in range(ways[-1][0]):
        yield _numbered(ends, ways, number)


def breaking_at(words, size, number):
    """The BREAKING of words that FITS size and has this number."""
    need_words(words)
    need_size(size)
    if not is_integer(number) or number < 0:
        raise OutOfPlace("no number of a breaking")
    ends = _all_line_ends(words, size[1])
    ways = _ways(ends, size[0])
    if number >= ways[-1][0]:
        raise Nothing("no breaking has this number")
    return _numbered(ends, ways, number)


def number_of(words, size, breaking):
    """The number of a BREAKING of words that FITS size."""
    need_words(words)
    need_size(size)
    if not _is_fitting(words, size, breaking):
        raise OutOfPlace("no breaking of the words that fits")
    ends = _all_line_ends(words, size[1])
    ways = _ways(ends, size[0])
    number = 0
    first = 0
    for line, count in enumerate(breaking):
        left = ways[-2 - line]
        number += sum([left[behind] for behind in ends[first] if behind < first + count])
        first += count
    return number


def need_size(size):
    """Refuses what is no SIZE."""
    if not (is_tuple(size, 2, 2) and is_within(size[0], 1, MOST_ROWS) and is_within(size[1], 1, MOST_COLUMNS)):
        raise OutOfPlace("no size")


def line_ends(words, first, columns):
    """The numbers of the words behind each line that begins with the word first, ascending.

    No line ends with a word that HOLDS, not even the last one.
    """
    ends = []
    width = -1
    for behind in range(first + 1, len(words) + 1):
        width += 1 + len(words[behind - 1][0])
        if width > columns:
            break
        if words[behind - 1][1] == 0:
            ends.append(behind)
    return ends


def rows_needed(words, columns):
    """The least number of LINES, each as long as can be; None if the words have no such lines.

    Only the first two things of each word are looked at, so that the words of
    SPOKEN will do.
    """
    rows = 0
    first = 0
    while first < len(words):
        ends = line_ends(words, first, columns)
        if not ends:
            return None
        first = ends[-1]
        rows += 1
    return rows


def can_stand(words, rows, columns):
    """Whether the words have a BREAKING of so many rows and columns at most."""
    needed = rows_needed(words, columns)
    return needed is not None and needed <= rows


def _least_columns(words, rows):
    """The least number of columns with which the words stand on so many rows, the fewest they need."""
    columns = 1
    while not can_stand(words, rows, columns):
        columns += 1
    return columns


def _all_line_ends(words, columns):
    return [line_ends(words, first, columns) for first in range(len(words))]


def _ways(ends, rows):
    """For each number of rows from 0 on: how many BREAKINGS the words from each one on have."""
    ways = [[0] * len(ends) + [1]]
    for _ in range(rows):
        ways.append([_sum_of(ways[-1], behinds) for behinds in ends] + [1])
    return ways


def _sum_of(numbers, places):
    return sum([numbers[place] for place in places])


def _numbered(ends, ways, number):
    """The BREAKING with this number, as the ways to go on from each line tell."""
    breaking = []
    first = 0
    rows = len(ways) - 1
    while first < len(ends):
        rows -= 1
        behind, number = _chosen(ends[first], ways[rows], number)
        breaking.append(behind - first)
        first = behind
    return tuple(breaking)


def _chosen(behinds, ways, number):
    """The line end under which a number falls, and the number under it."""
    place = 0
    while number >= ways[behinds[place]]:
        number -= ways[behinds[place]]
        place += 1
    return behinds[place], number


def _is_breaking(words, thing):
    if not are_counts(thing, len(words)):
        return False
    behind = 0
    for count in thing:
        behind += count
        if words[behind - 1][1] == 1:
            return False
    return True


def _is_fitting(words, size, thing):
    if not _is_breaking(words, thing) or len(thing) > size[0]:
        return False
    return all([len(line) <= size[1] for line in _lines(words, thing)])


def _lines(words, breaking):
    lines = []
    first = 0
    for count in breaking:
        lines.append(" ".join([pair[0] for pair in words[first:first + count]]))
        first += count
    return tuple(lines)
