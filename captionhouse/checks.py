"""Questions about values of any kind, for all other files."""

MOST_SIGNS = 40
TILDE = 126
PERCENT = 37
# No number that is read has more than a frame up to 10 ** 12.
MOST_FIGURES = 13
FIGURES = "0123456789"


def is_integer(thing):
    """Whether thing is an integer; True and False are none."""
    return isinstance(thing, int) and not isinstance(thing, bool)


def is_within(thing, least, most):
    """Whether thing is an integer from least to most."""
    return is_integer(thing) and least <= thing <= most


def is_tuple(thing, least, most):
    """Whether thing is a tuple of least to most things."""
    return isinstance(thing, tuple) and least <= len(thing) <= most


def is_one_of(thing, words):
    """Whether thing is one of these words."""
    return isinstance(thing, str) and thing in words


def is_word_and_tuple(thing, words):
    """Whether thing is a pair of one of these words and a tuple."""
    return is_tuple(thing, 2, 2) and is_one_of(thing[0], words) and isinstance(thing[1], tuple)


def ascends(things):
    """Whether each of some things is greater than the one ahead."""
    return all([ahead < thing for ahead, thing in zip(things, things[1:])])


def is_sign(sign, lowest):
    """Whether a character stands from the code lowest to the tilde, and is no percent sign."""
    return lowest <= ord(sign) <= TILDE and ord(sign) != PERCENT


def has_signs(thing, lowest):
    """Whether thing is a string of as many signs as a word or a line may have."""
    if not isinstance(thing, str) or not 1 <= len(thing) <= MOST_SIGNS:
        return False
    return all([is_sign(sign, lowest) for sign in thing])


def are_counts(thing, total):
    """Whether thing is a tuple of integers from 1 on that add up to total."""
    if not isinstance(thing, tuple):
        return False
    return all([is_integer(count) and count >= 1 for count in thing]) and sum(thing) == total


def number_in(word):
    """The number that a word tells in decimal, without a 0 ahead; None if it tells none that may be."""
    if not 1 <= len(word) <= MOST_FIGURES or not all([sign in FIGURES for sign in word]):
        return None
    if word[0] == "0" and len(word) > 1:
        return None
    return int(word)
