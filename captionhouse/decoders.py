"""Decoders with two memories, and the streams of codes that lead them."""

from captionhouse.cells import BLANK_SIGN, stepped
from captionhouse.checks import is_one_of, is_sign, is_tuple, is_within
from captionhouse.errors import BadCode, BadSize, OutOfPlace

MODES = ("hide", "paint", "roll1", "roll2", "roll3", "roll4")
MOST_ROWS = 4
MOST_COLUMNS = 40
MOST_CODES = 2000
LOWEST_OF_CELLS = 32
LONE_WORDS = ("hide", "paint", "line", "swap", "wipe", "clear", "rub", "tail", "idle")


def need_screen(screen):
    """screen itself, if it is a SCREEN."""
    if not (is_tuple(screen, 2, 2) and is_within(screen[0], 1, MOST_ROWS) and is_within(screen[1], 1, MOST_COLUMNS)):
        raise BadSize(screen)
    return screen


def blank(screen):
    """BLANK, the MEMORY of blanks alone."""
    need_screen(screen)
    rows, columns = screen
    return (BLANK_SIGN * columns,) * rows


def is_code(screen, value):
    """Whether any value is a CODE."""
    need_screen(screen)
    return is_code_of(screen, value)


def is_memory(screen, value):
    """Whether any value is a MEMORY."""
    need_screen(screen)
    return is_memory_of(screen, value)


def is_state(screen, value):
    """Whether any value is a STATE."""
    need_screen(screen)
    return is_state_of(screen, value)


def first_state(screen):
    """The first STATE."""
    empty = blank(screen)
    return ("hide", 0, 0, empty, empty)


def step(screen, state, code):
    """The STATE behind a CODE."""
    need_state(screen, state)
    need_code(screen, code)
    return state_behind(screen, state, code)


def led(screen, state, codes):
    """The STATE behind a STREAM."""
    need_state(screen, state)
    need_codes(screen, codes)
    control = state[:3]
    cells = cells_of(state)
    for code in codes:
        control, cells = stepped(screen, control, cells, code)
    return state_of(screen, control, cells)


def pictures(screen, codes):
    """The PICTURES of all frames of a STREAM, from the first STATE on."""
    state = first_state(screen)
    need_codes(screen, codes)
    control = state[:3]
    cells = cells_of(state)
    found = []
    for code in codes:
        control, cells = stepped(screen, control, cells, code)
        found.append(memory_of(screen, cells, 0))
    return tuple(found)


def state_behind(screen, state, code):
    """The STATE behind a CODE, all of them being such."""
    control, cells = stepped(screen, state[:3], cells_of(state), code)
    return state_of(screen, control, cells)


def need_state(screen, state):
    """Refuses what is no SCREEN, then what is no STATE of it."""
    if not is_state(screen, state):
        raise OutOfPlace("no state")


def need_code(screen, code):
    """Refuses what is no CODE of a SCREEN, as the first one of a STREAM."""
    if not is_code_of(screen, code):
        raise BadCode(0)


def need_codes(screen, codes, least=0, most=MOST_CODES):
    """Refuses what is no STREAM of a SCREEN, of so many CODES."""
    if not is_tuple(codes, least, most):
        raise BadCode(None)
    for number, code in enumerate(codes):
        if not is_code_of(screen, code):
            raise BadCode(number)


def are_codes(screen, value, least=0, most=MOST_CODES):
    """Whether any value is a STREAM of so many CODES, the SCREEN being one."""
    return is_tuple(value, least, most) and all([is_code_of(screen, code) for code in value])


def is_code_of(screen, value):
    """Whether any value is a CODE, the SCREEN being one."""
    rows, columns = screen
    if not is_tuple(value, 1, 3) or not isinstance(value[0], str):
        return False
    word = value[0]
    if len(value) == 1:
        return word in LONE_WORDS
    if len(value) == 2:
        return word == "put" and is_cell_sign(value[1]) or word == "roll" and is_within(value[1], 1, rows)
    return word == "at" and is_within(value[1], 0, rows - 1) and is_within(value[2], 0, columns - 1)


def is_state_of(screen, value):
    """Whether any value is a STATE, the SCREEN being one."""
    if not is_tuple(value, 5, 5) or not is_control(screen, value[:3]):
        return False
    return is_memory_of(screen, value[3]) and is_memory_of(screen, value[4])


def is_memory_of(screen, value):
    """Whether any value is a MEMORY, the SCREEN being one."""
    rows, columns = screen
    return is_tuple(value, rows, rows) and all([_is_row(row, columns) for row in value])


def is_control(screen, value):
    """Whether any value is a CONTROL, the SCREEN being one."""
    rows, columns = screen
    if not is_tuple(value, 3, 3) or not is_one_of(value[0], modes_of(screen)):
        return False
    return is_within(value[1], 0, rows - 1) and is_within(value[2], 0, columns - 1)


def modes_of(screen):
    """The MODES that a STATE of a SCREEN can have."""
    return MODES[:2 + screen[0]]


def is_cell_sign(thing):
    """Whether thing is a sign that can stand in a cell."""
    return isinstance(thing, str) and len(thing) == 1 and is_sign(thing, LOWEST_OF_CELLS)


def cells_of(state):
    """The CELLS of a STATE, with their signs."""
    return tuple("".join(state[3] + state[4]))


def state_of(screen, control, cells):
    """The STATE with a CONTROL and with CELLS of signs."""
    return (*control, memory_of(screen, cells, 0), memory_of(screen, cells, screen[0]))


def memory_of(screen, cells, first):
    """The MEMORY of the signs in CELLS whose rows begin with the first one told."""
    rows, columns = screen
    return tuple(["".join(cells[row * columns:(row + 1) * columns]) for row in range(first, first + rows)])


def _is_row(thing, columns):
    if not isinstance(thing, str) or len(thing) != columns:
        return False
    return all([is_sign(sign, LOWEST_OF_CELLS) for sign in thing])
