"""What the document tells, gone through by hand: slow, and without the package's own ways.

Nothing here imports the package, so that what it does is compared with the
words of the document alone.
"""

import random
from itertools import combinations


def counts_of(many):
    """All tuples of integers from 1 on that add up to many, ascending."""
    found = []
    for parts in range(many):
        for cuts in combinations(range(1, many), parts):
            ends = (0,) + cuts + (many,)
            found.append(tuple(b - a for a, b in zip(ends, ends[1:])))
    return sorted(found)


def parts_of(things, counts):
    """The things, parted by counts."""
    parts = []
    first = 0
    for count in counts:
        parts.append(things[first:first + count])
        first += count
    return parts


# Words: only the first two things of each are looked at.

def lines_by_hand(words, counts):
    return tuple(" ".join(word[0] for word in part) for part in parts_of(words, counts))


def is_breaking_by_hand(words, counts):
    return all(part[-1][1] == 0 for part in parts_of(words, counts))


def fits_by_hand(words, counts, size):
    lines = lines_by_hand(words, counts)
    return is_breaking_by_hand(words, counts) and len(lines) <= size[0] and all(len(x) <= size[1] for x in lines)


def breakings_by_hand(words, size):
    return [counts for counts in counts_of(len(words)) if fits_by_hand(words, counts, size)]


def best_by_hand(words, size):
    found = breakings_by_hand(words, size)
    if not found:
        return None
    return min(found, key=lambda counts: (len(counts), max(len(x) for x in lines_by_hand(words, counts)), counts))


# Plans.

def cue_holds(spoken, rules, first, count, start, end, ahead):
    """Whether a cue is as [3] tells, behind one that ends at ahead, or behind none (None)."""
    rows, columns, least, most, gap, letters, frames, early, late = rules
    words = spoken[first:first + count]
    signs = sum(len(word[0]) for word in words) + count - 1
    return (words[-1][1] == 0 and bool(breakings_by_hand(words, (rows, columns)))
            and start >= 0 and least <= end - start <= most
            and (end - start) * letters >= frames * signs
            and words[-1][2] - early <= start <= words[0][2] + late
            and all(end >= word[3] for word in words)
            and (ahead is None or start >= ahead + gap))


def plan_holds(spoken, rules, plan):
    ahead = None
    first = 0
    for count, start, end in plan:
        if not cue_holds(spoken, rules, first, count, start, end, ahead):
            return False
        ahead = end
        first += count
    return first == len(spoken)


def cues_by_hand(spoken, rules, first, count, ahead):
    """All (FROM, TO) that a cue can have."""
    lowest = 0 if ahead is None else max(0, ahead + rules[4])
    words = spoken[first:first + count]
    if words[-1][1] or not breakings_by_hand(words, rules[:2]):
        return []
    return [(start, end)
            for start in range(lowest, words[0][2] + rules[8] + 1)
            for end in range(start + rules[2], start + rules[3] + 1)
            if cue_holds(spoken, rules, first, count, start, end, ahead)]


def plans_by_hand(spoken, rules, counts):
    """All PLANS with these counts."""
    plans = [((), None, 0)]
    for count in counts:
        plans = [(plan + ((count, start, end),), end, first + count)
                 for plan, ahead, first in plans
                 for start, end in cues_by_hand(spoken, rules, first, count, ahead)]
    return [plan for plan, _, _ in plans]


def least_ends_by_hand(spoken, rules):
    """The LEAST ENDS, each of them over all ways to part the words ahead."""
    ends = []
    for many in range(1, len(spoken) + 1):
        found = [least_end_of(spoken, rules, counts) for counts in counts_of(many)]
        ends.append(min((end for end in found if end is not None), default=None))
    return tuple(ends)


def least_end_of(spoken, rules, counts):
    """The least TO of a plan with these counts, of the first words; None without one."""
    ends = {None}
    first = 0
    for count in counts:
        ends = {end for ahead in ends for _, end in cues_by_hand(spoken, rules, first, count, ahead)}
        first += count
    return min(ends, default=None)


def fewest_by_hand(spoken, rules):
    return min((len(counts) for counts in counts_of(len(spoken))
                if least_end_of(spoken, rules, counts) is not None), default=None)


def bounds_hold_by_hand(spoken, rules, ahead, bounds):
    """Whether no cue behind one of ahead breaks bounds.

    Both are dicts by numbers of words; ahead has the numbers that are no None,
    with None of 0 words for no cue ahead.
    """
    for behind in bounds:
        for first in ahead:
            if first < behind:
                cues = cues_by_hand(spoken, rules, first, behind - first, ahead[first])
                if cues and (bounds[behind] is None or bounds[behind] > min(end for _, end in cues)):
                    return False
    return True


def rows_of_bounds(bounds):
    """BOUNDS by numbers of words, and those of them that are no None."""
    table = dict(enumerate(bounds, 1))
    return table, {many: end for many, end in table.items() if end is not None}


def some_spoken(chance, most_words=5):
    """SPOKEN, short and quick, from a random.Random."""
    many = chance.randint(1, most_words)
    words = []
    begin = 0
    for number in range(many):
        begin += chance.randint(0, 3)
        holds = 0 if number == many - 1 else int(chance.random() < 0.2)
        words.append(("abcd"[:chance.randint(1, 4)], holds, begin, begin + chance.randint(0, 3)))
    return tuple(words)


def some_rules(chance):
    """RULES that now and then let a PLAN be, from a random.Random."""
    least = chance.randint(1, 3)
    return (chance.randint(1, 3), chance.randint(3, 9), least, least + chance.randint(0, 6), chance.randint(0, 2),
            chance.randint(1, 3), chance.randint(0, 3), chance.randint(0, 3), chance.randint(0, 4))


def chance_of(number):
    return random.Random(number)


# Files.

def seen_by_hand(file, frame):
    there = [(cue[0], number) for number, cue in enumerate(file) if cue[0] <= frame < cue[1]]
    return file[max(there)[1]][2] if there else None


def picture_by_hand(file, frames):
    return [seen_by_hand(file, frame) for frame in range(frames)]


def flat_by_hand(picture):
    """The FLAT cues of what is seen at each frame."""
    cues = []
    for frame, text in enumerate(picture):
        if text is not None:
            if cues and cues[-1][1] == frame and cues[-1][2] == text:
                cues[-1] = (cues[-1][0], frame + 1, text)
            else:
                cues.append((frame, frame + 1, text))
    return tuple(cues)


def some_file(chance, most_cues=5, frames=10, texts="ab"):
    """A FILE within a few frames, from a random.Random."""
    cues = []
    for _ in range(chance.randint(0, most_cues)):
        start, end = sorted(chance.sample(range(frames + 1), 2))
        cues.append((start, end, (chance.choice(texts),)))
    return tuple(cues)
