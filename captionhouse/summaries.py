"""Summaries of streams: what they do to all states of a decoder at once.

A THREAD is a pair (CONTROL, CELLS) of what has become of all STATES with one
first CONTROL: the numbers in CELLS are those of the first STATE's cells.
Threads of a stream stand in the order of their first CONTROLS.
"""

from captionhouse.cells import BLANK_SIGN, stepped, with_cells
from captionhouse.checks import is_tuple, is_within
from captionhouse.decoders import (cells_of, is_cell_sign, is_control, modes_of, need_codes, need_screen, need_state,
                                   state_of)
from captionhouse.errors import OutOfPlace, TooGreat

MOST_CELLS = 12
MARK = "x"


def controls(screen):
    """All CONTROLS, ascending."""
    need_small_screen(screen)
    rows, columns = screen
    return tuple([(mode, row, column) for mode in modes_of(screen) for row in range(rows) for column in range(columns)])


def summary(screen, codes):
    """The SUMMARY of a STREAM."""
    need_small_screen(screen)
    need_codes(screen, codes)
    pairs = list(zip(controls(screen), threads_behind(screen, codes)))
    return tuple([(first, after, cells) for first, (after, cells) in pairs])


def is_summary(screen, value):
    """Whether any value has the form of a SUMMARY."""
    firsts = controls(screen)
    if not is_tuple(value, len(firsts), len(firsts)):
        return False
    return all([_is_entry(screen, first, entry) for first, entry in zip(firsts, value)])


def joined(screen, one, other):
    """The SUMMARY of two STREAMS one behind the other, of whose SUMMARIES it is told."""
    _need_summary(screen, one)
    _need_summary(screen, other)
    entries = {entry[0]: entry for entry in other}
    found = []
    for first, between, cells in one:
        _, after, sources = entries[between]
        found.append((first, after, _drawn(cells, sources)))
    return tuple(found)


def led_by(screen, summary, state):
    """The STATE behind a STREAM that is told by its SUMMARY."""
    _need_summary(screen, summary)
    need_state(screen, state)
    _, after, sources = summary[controls(screen).index(state[:3])]
    return state_of(screen, after, _drawn(cells_of(state), sources))


def do_alike(screen, one, other):
    """Whether two STREAMS lead each STATE to the same one."""
    _need_two(screen, one, other)
    return threads_behind(screen, one) == threads_behind(screen, other)


def apart(screen, one, other):
    """A STATE of blanks and x that two STREAMS lead to unlike ones, or None."""
    _need_two(screen, one, other)
    pairs = list(zip(threads_behind(screen, one), threads_behind(screen, other)))
    for first, (thread, other_thread) in zip(controls(screen), pairs):
        if thread != other_thread:
            return state_of(screen, first, _telling_cells(screen, thread, other_thread))
    return None


def need_small_screen(screen):
    """Refuses what is no SCREEN, or one of too many cells."""
    need_screen(screen)
    if screen[0] * screen[1] > MOST_CELLS:
        raise TooGreat(MOST_CELLS)


def first_threads(screen):
    """The threads of a STREAM without CODES."""
    cells = tuple(range(2 * screen[0] * screen[1]))
    return [(control, cells) for control in controls(screen)]


def threads_one_on(screen, threads, code):
    """The threads behind one more CODE."""
    # Most threads soon are the same, so that each of those is led once.
    led_on = {}
    for thread in threads:
        if thread not in led_on:
            led_on[thread] = stepped(screen, thread[0], thread[1], code)
    return [led_on[thread] for thread in threads]


def threads_behind(screen, codes):
    """The threads of a STREAM."""
    threads = first_threads(screen)
    for code in codes:
        threads = threads_one_on(screen, threads, code)
    return threads


def _need_summary(screen, thing):
    if not is_summary(screen, thing):
        raise OutOfPlace("no summary")


def _need_two(screen, one, other):
    need_small_screen(screen)
    need_codes(screen, one)
    need_codes(screen, other)


def _is_entry(screen, first, thing):
    """Whether thing can be the triple of a first CONTROL in a SUMMARY."""
    if not is_tuple(thing, 3, 3) or not is_control(screen, thing[0]) or thing[0] != first:
        return False
    many = 2 * screen[0] * screen[1]
    if not is_control(screen, thing[1]) or not is_tuple(thing[2], many, many):
        return False
    return all([is_cell_sign(cell) or is_within(cell, 0, many - 1) for cell in thing[2]])


def _drawn(cells, sources):
    """What stands in cells of SOURCES: their signs, or what stands in the CELLS of their numbers."""
    return tuple([source if isinstance(source, str) else cells[source] for source in sources])


def _telling_cells(screen, one, other):
    """CELLS of blanks and one x at most that two unlike threads lead to unlike STATES."""
    cells = (BLANK_SIGN,) * (2 * screen[0] * screen[1])
    if one[0] != other[0]:
        return cells
    unlike = [pair for pair in zip(one[1], other[1]) if pair[0] != pair[1]]
    numbers = [cell for cell in unlike[0] if not isinstance(cell, str)]
    # Against an x of the other one the cell is left blank.
    if not numbers or MARK in unlike[0]:
        return cells
    return with_cells(cells, numbers[0], (MARK,))
