"""Rates: chains of steps that move frames, for all frames at once."""

from math import gcd, lcm

from captionhouse.checks import is_one_of, is_tuple, is_within
from captionhouse.errors import BadChain, OutOfPlace, TooGreat
from captionhouse.files import MOST_FRAME, need_file

MOST_STEPS = 4
MOST_OF_STEP = 2000
MOST_PRODUCT = 100000
ROUNDINGS = ("down", "up", "near")


def need_chain(thing):
    """thing itself, if it is a CHAIN."""
    if not is_tuple(thing, 0, MOST_STEPS):
        raise BadChain(None)
    product = 1
    for number, step in enumerate(thing):
        if not _is_step(step):
            raise BadChain(number)
        product *= step[1]
        if product > MOST_PRODUCT:
            raise BadChain(number)
    return thing


def moved(chain, frame):
    """Where a CHAIN moves a frame."""
    need_chain(chain)
    if not is_within(frame, 0, MOST_FRAME):
        raise OutOfPlace("no frame")
    return _moved(chain, frame)


def slope(chain):
    """The SLOPE of a CHAIN."""
    need_chain(chain)
    top = 1
    for step in chain:
        top *= step[0]
    bottom = _bottom(chain)
    common = gcd(top, bottom)
    return (top // common, bottom // common)


def period(chain):
    """The PERIOD and the RISE of a CHAIN."""
    need_chain(chain)
    many = _bottom(chain)
    frames = [_moved(chain, frame) for frame in range(many + 1)]
    rises = [after - ahead for ahead, after in zip(frames, frames[1:])]
    # The lengths after which the rises come again are the multiples of the
    # least one, and the product of the Ds is one of them.
    for prime in _primes_of(many):
        if _comes_again(rises, many // prime):
            many //= prime
    return (many, frames[many])


def alike_chains(one, other):
    """Whether two CHAINS are ALIKE."""
    return apart_chains(one, other) is None


def apart_chains(one, other):
    """The first frame at which two CHAINS part, or None."""
    need_chain(one)
    need_chain(other)
    common = lcm(_bottom(one), _bottom(other))
    if common > MOST_PRODUCT:
        raise TooGreat(MOST_PRODUCT)
    return _first_apart(one, other, common)


def comes_back(chain):
    """Whether a CHAIN moves each frame to itself."""
    need_chain(chain)
    return _first_apart(chain, (), _bottom(chain)) is None


def least_kept(chain):
    """The LEAST KEPT length of a CHAIN."""
    need_chain(chain)
    longest = 0
    many = 0
    ahead = None
    # So many frames show each row of frames that are moved to one, from its beginning on.
    for frame in range(2 * _bottom(chain)):
        here = _moved(chain, frame)
        if here == ahead:
            many += 1
        else:
            many = 1
        longest = max(longest, many)
        ahead = here
    return longest


def moved_file(chain, file):
    """A FILE moved by a CHAIN."""
    need_chain(chain)
    need_file(file)
    cues = [(_moved(chain, start), _moved(chain, end), text) for start, end, text in file]
    if any([cue[1] > MOST_FRAME for cue in cues]):
        raise TooGreat(MOST_FRAME)
    return tuple([cue for cue in cues if cue[0] < cue[1]])


def _is_step(thing):
    if not is_tuple(thing, 3, 3) or not is_one_of(thing[2], ROUNDINGS):
        return False
    return is_within(thing[0], 1, MOST_OF_STEP) and is_within(thing[1], 1, MOST_OF_STEP)


def _moved(chain, frame):
    for top, bottom, rounding in chain:
        frame = _quotient(frame * top, bottom, rounding)
    return frame


def _quotient(top, bottom, rounding):
    """top parted by bottom, to an integer."""
    if rounding == "up":
        return -(-top // bottom)
    if rounding == "near":
        return (2 * top + bottom) // (2 * bottom)
    return top // bottom


def _bottom(chain):
    """The product of the Ds."""
    product = 1
    for step in chain:
        product *= step[1]
    return product


def _primes_of(number):
    """The primes whose product is a number, each as often as it stands in it."""
    primes = []
    prime = 2
    while number > 1:
        while number % prime == 0:
            primes.append(prime)
            number //= prime
        prime += 1
    return primes


def _comes_again(rises, many):
    """Whether rises that go round are the same so many frames on."""
    return rises[many:] + rises[:many] == rises


def _first_apart(one, other, last):
    """The first frame up to the last one that two CHAINS move to unlike ones, or None."""
    for frame in range(last + 1):
        if _moved(one, frame) != _moved(other, frame):
            return frame
    return None
