"""Cut lists, mended files and rates, gone through by hand: frame by frame, without the package."""

from fractions import Fraction
from itertools import product


# Cut lists.

def frames_of(cuts):
    """The SOURCES of all new frames."""
    return [frame for start, end in cuts for frame in range(start, end)]


def stretches_of(frames):
    """The longest stretches of frames that go up by one, in turn."""
    found = []
    for frame in frames:
        if found and found[-1][1] == frame:
            found[-1] = (found[-1][0], frame + 1)
        else:
            found.append((frame, frame + 1))
    return tuple(found)


def some_cuts(chance, most=4, frames=8):
    """CUTS of a few frames, from a random.Random."""
    cuts = []
    for _ in range(chance.randint(0, most)):
        start, end = sorted(chance.sample(range(frames + 1), 2))
        cuts.append((start, end))
    return tuple(cuts)


def shows(frames, part):
    """Whether a list of frames has a part somewhere."""
    return any(frames[k:k + len(part)] == part for k in range(len(frames) - len(part) + 1))


def fewest_bringing_by_hand(frames, wanted):
    """The least number of parts of frames that are wanted, one behind the other; None if there are none."""
    least = [0] + [None] * len(wanted)
    for end in range(1, len(wanted) + 1):
        found = [least[start] + 1 for start in range(end)
                 if least[start] is not None and shows(frames, wanted[start:end])]
        least[end] = min(found, default=None)
    return least[-1]


def are_stops_by_hand(frames, wanted, stops):
    if stops and stops[0] != 0:
        return False
    if not all(0 <= stop < len(wanted) for stop in stops):
        return False
    return all(one < other and not shows(frames, wanted[one:other + 1]) for one, other in zip(stops, stops[1:]))


# Mended files.

def is_mended_by_hand(file, end, least, gap, cues):
    if len(cues) != len(file):
        return False
    for number, (start, stop, text) in enumerate(cues):
        if text != file[number][2] or start > file[number][0] or stop < file[number][1] or stop - start < least:
            return False
        if start < 0 or (number > 0 and start < cues[number - 1][1] + gap):
            return False
    return not cues or cues[-1][1] <= end


def all_mended_by_hand(file, end, least, gap):
    """All FILES that a FLAT one is MENDED to."""
    choices = [[(start, stop, text) for start in range(old_start + 1) for stop in range(old_stop, end + 1)
                if stop > start] for old_start, old_stop, text in file]
    return [cues for cues in product(*choices) if is_mended_by_hand(file, end, least, gap, cues)]


def is_bar_by_hand(file, end, least, gap, low, high):
    if not 0 <= low <= high <= len(file):
        return False
    begin = 0 if low == 0 else file[low - 1][1] + gap
    limit = end + gap if high == len(file) else file[high][0]
    return begin + (high - low) * (least + gap) > limit


# Rates.

def moved_by_hand(chain, frame):
    for top, bottom, rounding in chain:
        place = Fraction(frame * top, bottom)
        frame = place.numerator // place.denominator
        rest = place - frame
        if rounding == "up" and rest > 0 or rounding == "near" and rest >= Fraction(1, 2):
            frame += 1
    return frame


def bottom_of(chain):
    product_of_all = 1
    for step in chain:
        product_of_all *= step[1]
    return product_of_all


def some_chain(chance, most=3, greatest=5):
    """A CHAIN of small numbers, from a random.Random."""
    return tuple((chance.randint(1, greatest), chance.randint(1, greatest), chance.choice(("down", "up", "near")))
                 for _ in range(chance.randint(0, most)))
