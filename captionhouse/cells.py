"""What a CODE does to a decoder, whatever stands in its cells.

CELLS are a tuple of what stands in the cells of a STATE: those of SHOWN from
the first row on, row by row, then those of HIDDEN likewise. Nothing here looks
into a cell: it may hold its sign, or the number of the cell that its sign has
come from.
"""

BLANK_SIGN = " "
HIDE = "hide"
ROLL = "roll"


def stepped(screen, control, cells, code):
    """The CONTROL and the CELLS behind a CODE."""
    return (control_behind(screen, control, code), cells_behind(screen, control, cells, code))


def control_behind(screen, control, code):
    """The CONTROL behind a CODE."""
    rows, columns = screen
    mode, row, column = control
    word = code[0]
    if word == "put":
        return (mode, row, min(column + 1, columns - 1))
    if word == "at":
        return (mode, code[1], code[2])
    if word in ("hide", "paint"):
        return (word, row, column)
    if word == "roll":
        return (f"{ROLL}{code[1]}", rows - 1, 0)
    if word == "line":
        if rolling_rows(mode) > 0:
            return (mode, rows - 1, 0)
        return (mode, min(row + 1, rows - 1), 0)
    if word == "swap":
        return (HIDE, row, column)
    if word == "rub":
        return (mode, row, max(column - 1, 0))
    return control


def cells_behind(screen, control, cells, code):
    """The CELLS behind a CODE that comes when the CONTROL is as told."""
    rows, columns = screen
    half = rows * columns
    mode, _, column = control
    word = code[0]
    place = cursor_cell(screen, control)
    if word == "put":
        return with_cells(cells, place, (code[1],))
    if word == "rub" and column > 0:
        return with_cells(cells, place - 1, (BLANK_SIGN,))
    if word == "tail":
        return with_cells(cells, place, (BLANK_SIGN,) * (columns - column))
    if word == "line" and rolling_rows(mode) > 0:
        top = (rows - rolling_rows(mode)) * columns
        return cells[:top] + cells[top + columns:half] + (BLANK_SIGN,) * columns + cells[half:]
    if word == "swap":
        return cells[half:] + cells[:half]
    if word == "wipe":
        return with_cells(cells, 0, (BLANK_SIGN,) * half)
    if word == "clear":
        return with_cells(cells, half, (BLANK_SIGN,) * half)
    return cells


def cursor_cell(screen, control):
    """The number of the cell at the cursor, of the MEMORY in use."""
    rows, columns = screen
    mode, row, column = control
    if mode == HIDE:
        row += rows
    return row * columns + column


def rolling_rows(mode):
    """The figure of a MODE "roll"; 0 for the other ones."""
    if mode[:-1] == ROLL:
        return int(mode[-1])
    return 0


def with_cells(cells, place, others):
    """The CELLS with other ones from a place on."""
    return cells[:place] + others + cells[place + len(others):]
