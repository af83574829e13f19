"""Decoders, gone through by hand: rows of cells in lists, without the package.

A cell may hold anything, so that it can be followed where its sign has come from.
"""

from itertools import product

SIGNS = [chr(code) for code in range(32, 127) if code != 37]


class Decoder:
    def __init__(self, screen, mode, row, column, shown, hidden):
        self.rows, self.columns = screen
        self.mode = mode
        self.row = row
        self.column = column
        self.memories = {"shown": [list(line) for line in shown], "hidden": [list(line) for line in hidden]}

    def in_use(self):
        return self.memories["hidden" if self.mode == "hide" else "shown"]

    def take(self, code):
        getattr(self, "take_" + code[0])(*code[1:])

    def take_put(self, sign):
        self.in_use()[self.row][self.column] = sign
        if self.column != self.columns - 1:
            self.column += 1

    def take_at(self, row, column):
        self.row, self.column = row, column

    def take_hide(self):
        self.mode = "hide"

    def take_paint(self):
        self.mode = "paint"

    def take_roll(self, many):
        self.mode = "roll" + str(many)
        self.row, self.column = self.rows - 1, 0

    def take_line(self):
        self.column = 0
        if self.mode.startswith("roll"):
            shown = self.memories["shown"]
            shown.pop(self.rows - int(self.mode[4]))
            shown.append([" "] * self.columns)
            self.row = self.rows - 1
        elif self.row != self.rows - 1:
            self.row += 1

    def take_swap(self):
        memories = self.memories
        memories["shown"], memories["hidden"] = memories["hidden"], memories["shown"]
        self.mode = "hide"

    def take_wipe(self):
        self.memories["shown"] = [[" "] * self.columns for _ in range(self.rows)]

    def take_clear(self):
        self.memories["hidden"] = [[" "] * self.columns for _ in range(self.rows)]

    def take_rub(self):
        if self.column != 0:
            self.column -= 1
            self.in_use()[self.row][self.column] = " "

    def take_tail(self):
        for column in range(self.column, self.columns):
            self.in_use()[self.row][column] = " "

    def take_idle(self):
        pass

    def control(self):
        return (self.mode, self.row, self.column)

    def memory(self, name):
        return tuple("".join(line) for line in self.memories[name])

    def state(self):
        return (*self.control(), self.memory("shown"), self.memory("hidden"))

    def cells(self):
        """What the cells hold, those shown first."""
        return tuple(cell for name in ("shown", "hidden") for line in self.memories[name] for cell in line)


def first_by_hand(screen):
    empty = (" " * screen[1],) * screen[0]
    return ("hide", 0, 0, empty, empty)


def led_by_hand(screen, state, codes):
    decoder = Decoder(screen, *state)
    for code in codes:
        decoder.take(code)
    return decoder.state()


def pictures_by_hand(screen, codes):
    decoder = Decoder(screen, *first_by_hand(screen))
    found = []
    for code in codes:
        decoder.take(code)
        found.append(decoder.memory("shown"))
    return tuple(found)


def modes_by_hand(screen):
    return ["hide", "paint"] + ["roll" + str(k) for k in range(1, screen[0] + 1)]


def controls_by_hand(screen):
    return sorted(product(modes_by_hand(screen), range(screen[0]), range(screen[1])))


def summary_by_hand(screen, codes):
    """What comes of numbered cells."""
    rows, columns = screen
    shown = [[row * columns + column for column in range(columns)] for row in range(rows)]
    hidden = [[rows * columns + cell for cell in line] for line in shown]
    found = []
    for control in controls_by_hand(screen):
        decoder = Decoder(screen, *control, shown, hidden)
        for code in codes:
            decoder.take(code)
        found.append((control, decoder.control(), decoder.cells()))
    return tuple(found)


def all_states(screen, signs):
    """All STATES with these signs alone."""
    rows, columns = screen
    lines = ["".join(line) for line in product(signs, repeat=columns)]
    memories = list(product(lines, repeat=rows))
    return [(*control, shown, hidden) for control in controls_by_hand(screen) for shown in memories
            for hidden in memories]


def some_state(chance, screen, signs=SIGNS):
    rows, columns = screen
    memories = [tuple("".join(chance.choices(signs, k=columns)) for _ in range(rows)) for _ in range(2)]
    return (*chance.choice(controls_by_hand(screen)), *memories)


def all_codes(screen, signs="ax"):
    rows, columns = screen
    return ([("put", sign) for sign in signs] + [("roll", k) for k in range(1, rows + 1)]
            + [("at", row, column) for row in range(rows) for column in range(columns)]
            + [(word,) for word in ("hide", "paint", "line", "swap", "wipe", "clear", "rub", "tail", "idle")])


def some_codes(chance, screen, many, signs="ax"):
    """A STREAM of so many CODES, in which each word is as likely as any other one."""
    words = {}
    for code in all_codes(screen, signs):
        words.setdefault(code[0], []).append(code)
    return tuple(chance.choice(words[chance.choice(sorted(words))]) for _ in range(many))


def sure_by_hand(screen, codes, signs="?x"):
    """The SURE signs, over all STATES of these signs: two of them tell as much as all."""
    shown = [led_by_hand(screen, state, codes)[3] for state in all_states(screen, signs)]
    return tuple(tuple(shown[0][row][column] if len({picture[row][column] for picture in shown}) == 1 else None
                       for column in range(screen[1])) for row in range(screen[0]))


def endless_by_hand(head, ring, begin, many):
    """So many CODES of an ENDLESS STREAM, from the one with the number begin on."""
    codes = list(head)
    while len(codes) < begin + many:
        codes.extend(ring)
    return tuple(codes[begin:begin + many])


def flags_by_hand(screen, codes):
    """Whether all is SURE behind each number of CODES, from none to all of them.

    Of each CONTROL two STATES are led: a cell whose sign has come from one of
    them is unlike in both.
    """
    decoders = [Decoder(screen, *control, *[(sign * screen[1],) * screen[0]] * 2)
                for control in controls_by_hand(screen) for sign in "?!"]
    flags = []
    for number in range(len(codes) + 1):
        flags.append(len({decoder.memory("shown") for decoder in decoders}) == 1)
        for decoder in decoders:
            if number < len(codes):
                decoder.take(codes[number])
    return flags
