"""What words of SPOKEN can be as one cue, by themselves and behind another one.

A span is a tuple (LEFT, BEGIN of the first word, LEAST TIME, greatest END) of
words that can be one cue by themselves. LEFT says all that keeps FROM from
being less, but for the cue ahead: to be as long as MOST at most, a cue cannot
begin ahead of its greatest END - MOST. Limits are the pair (GAP, LATE).
"""

from captionhouse.lines import can_stand


def span_of(spoken, rules, first, behind):
    """The span of the words from number first up to behind; None if they can be no cue.

    Words whose last one HOLDS cannot stand, since no line ends with it.
    """
    rows, columns, least, most, _, letters, frames, early, _ = rules
    words = spoken[first:behind]
    if not can_stand(words, rows, columns):
        return None
    time = max(least, -(-frames * signs_of(words) // letters))
    if time > most:
        return None
    end = max([word[3] for word in words])
    return (max(0, words[-1][2] - early, end - most), words[0][2], time, end)


def signs_of(words):
    """How many signs a cue of these words has, one between two of them."""
    return sum([len(word[0]) for word in words]) + len(words) - 1


def all_spans(spoken, rules):
    """A dict of the spans of all words that can be one cue, by (first, behind)."""
    spans = {}
    for first in range(len(spoken)):
        for behind in range(first + 1, len(spoken) + 1):
            span = span_of(spoken, rules, first, behind)
            if span is not None:
                spans[first, behind] = span
    return spans


def limits_of(rules):
    """The limits that hold between cues and for their FROM."""
    return (rules[4], rules[8])


def before_all(limits):
    """Where a cue would end that leaves the first one as free as no cue ahead does."""
    return -limits[0]


def cue_behind(span, ahead, limits):
    """FROM and TO, each as little as can be, behind a cue that ends at ahead; None if it cannot be."""
    left, begin, time, end = span
    gap, late = limits
    start = max(left, ahead + gap)
    if start > begin + late:
        return None
    return (start, max(end, start + time))


def soonest_cue(spans, limits, ends, behind):
    """(TO, first word, FROM) of the cue up to the word behind that ends soonest, or None.

    ends tells for each number of words where the cue ahead of them ends, or None.
    """
    soonest = None
    for first in range(behind):
        if ends[first] is not None and (first, behind) in spans:
            cue = cue_behind(spans[first, behind], ends[first], limits)
            if cue is not None and (soonest is None or cue[1] < soonest[0]):
                soonest = (cue[1], first, cue[0])
    return soonest


def no_cue_breaks(spans, limits, ends, bounds):
    """Whether no cue behind one of ends ends sooner than bounds tell; both begin with no words."""
    for (first, behind), span in spans.items():
        if ends[first] is not None:
            cue = cue_behind(span, ends[first], limits)
            if cue is not None and (bounds[behind] is None or bounds[behind] > cue[1]):
                return False
    return True
