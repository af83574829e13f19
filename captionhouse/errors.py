"""The errors of this package.

Each stands straight under an error of Python's own. The numbers, places and
values are not put into messages here: an error may be made of any thing, and
not every thing can be shown.
"""


class BadWords(ValueError):
    """What is no WORDS; number is that of the first wrong word, or None."""

    def __init__(self, number):
        ValueError.__init__(self, "no such words")
        self.number = number


class BadSpoken(ValueError):
    """What is no SPOKEN; number is that of the first wrong word, or None."""

    def __init__(self, number):
        ValueError.__init__(self, "no such spoken words")
        self.number = number


class BadRules(ValueError):
    """What is no RULES; number is that of the first wrong one, or None."""

    def __init__(self, number):
        ValueError.__init__(self, "no such rules")
        self.number = number


class BadFile(ValueError):
    """What is no FILE; number is that of the first wrong cue, or None."""

    def __init__(self, number):
        ValueError.__init__(self, "no such file")
        self.number = number


class BadCuts(ValueError):
    """What is no CUTS; number is that of the first wrong stretch, or None."""

    def __init__(self, number):
        ValueError.__init__(self, "no such cuts")
        self.number = number


class BadChain(ValueError):
    """What is no CHAIN; number is that of the first wrong step, or None."""

    def __init__(self, number):
        ValueError.__init__(self, "no such chain")
        self.number = number


class BadSize(ValueError):
    """What is no SCREEN; value is what was passed."""

    def __init__(self, value):
        ValueError.__init__(self, "no such screen")
        self.value = value


class BadPaper(ValueError):
    """A paper that is not as told; part is the word of what is wrong in it."""

    def __init__(self, part):
        ValueError.__init__(self, "no such paper")
        self.part = part


class BadText(ValueError):
    """A text that cannot be read; line is the number of its first wrong line."""

    def __init__(self, line):
        ValueError.__init__(self, "no such text")
        self.line = line


class BadCode(ValueError):
    """What is no CODE or STREAM; place tells where, or is None."""

    def __init__(self, place):
        ValueError.__init__(self, "no such code")
        self.place = place


class BadCues(ValueError):
    """What is no SENDABLE CUES; number is that of the first wrong cue, or None."""

    def __init__(self, number):
        ValueError.__init__(self, "no such cues")
        self.number = number


class OutOfPlace(ValueError):
    """An argument that is not of the kind that is told."""

    def __init__(self, text):
        ValueError.__init__(self, text)


class TooGreat(OverflowError):
    """More than can be dealt with; most is how much can."""

    def __init__(self, most):
        OverflowError.__init__(self, "too great")
        self.most = most


class Nothing(LookupError):
    """What was asked for does not exist."""

    def __init__(self, text):
        LookupError.__init__(self, text)
