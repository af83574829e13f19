"""Plans with given counts of words, and the bars that keep them from being."""

from captionhouse.checks import are_counts, is_one_of, is_tuple, is_within
from captionhouse.errors import OutOfPlace
from captionhouse.plans import need_rules, need_spoken
from captionhouse.spans import before_all, cue_behind, limits_of, span_of

KINDS = ("end", "left")


def are_possible(spoken, rules, counts):
    """Whether COUNTS are POSSIBLE."""
    need_spoken(spoken)
    need_rules(rules)
    return _spans(spoken, rules, counts) is not None


def earliest(spoken, rules, counts):
    """The EARLIEST PLAN with POSSIBLE COUNTS, or None."""
    spans = _need_spans(spoken, rules, counts)
    limits = limits_of(rules)
    ahead = before_all(limits)
    cues = []
    for count, span in zip(counts, spans):
        cue = cue_behind(span, ahead, limits)
        if cue is None:
            return None
        cues.append((count, *cue))
        ahead = cue[1]
    return tuple(cues)


def latest(spoken, rules, counts):
    """The LATEST PLAN with POSSIBLE COUNTS, or None."""
    spans = _need_spans(spoken, rules, counts)
    most = rules[3]
    gap, late = limits_of(rules)
    cues = []
    # Nothing stands behind the last cue: its TO is as great as MOST lets it be.
    limit = spans[-1][1] + late + most
    for count, span in reversed(list(zip(counts, spans))):
        left, begin, time, end = span
        start = min(begin + late, limit - time)
        if start < left or limit < end:
            return None
        cues.append((count, start, min(limit, start + most)))
        limit = start - gap
    return tuple(cues[::-1])


def bar(spoken, rules, counts):
    """The first BAR of POSSIBLE COUNTS, or None."""
    spans = _need_spans(spoken, rules, counts)
    for low in range(len(spans)):
        for high in range(low, len(spans)):
            for kind in KINDS:
                if _is_bar(spans, limits_of(rules), (low, high, kind)):
                    return (low, high, kind)
    return None


def check_bar(spoken, rules, counts, thing):
    """Whether any value is a BAR of POSSIBLE COUNTS."""
    spans = _need_spans(spoken, rules, counts)
    if not is_tuple(thing, 3, 3) or not is_one_of(thing[2], KINDS):
        return False
    last = len(spans) - 1
    if not is_within(thing[0], 0, last) or not is_within(thing[1], thing[0], last):
        return False
    return _is_bar(spans, limits_of(rules), thing)


def late_of(spoken, rules, counts):
    """The least LATE with which POSSIBLE COUNTS have a PLAN."""
    spans = _need_spans(spoken, rules, counts)
    gap = rules[4]
    ahead = -gap
    needed = 0
    for left, begin, time, end in spans:
        start = max(left, ahead + gap)
        needed = max(needed, start - begin)
        ahead = max(end, start + time)
    return needed


def _spans(spoken, rules, counts):
    """The spans of the cues of COUNTS; None if they are not POSSIBLE."""
    if not are_counts(counts, len(spoken)):
        raise OutOfPlace("no counts of the words")
    spans = []
    first = 0
    for count in counts:
        spans.append(span_of(spoken, rules, first, first + count))
        first += count
    if None in spans:
        return None
    return spans


def _need_spans(spoken, rules, counts):
    need_spoken(spoken)
    need_rules(rules)
    spans = _spans(spoken, rules, counts)
    if spans is None:
        raise OutOfPlace("no possible counts")
    return spans


def _is_bar(spans, limits, triple):
    """Whether numbers and a kind, I no greater than J, tell that more is wanted than RIGHT of J."""
    low, high, kind = triple
    gap, late = limits
    if kind == "left":
        wanted = spans[low][0] + _room(spans, gap, low, high)
    elif low < high:
        wanted = spans[low][3] + gap + _room(spans, gap, low + 1, high)
    else:
        return False
    return wanted > spans[high][1] + late


def _room(spans, gap, low, high):
    """The frames that the cues from low on, up to high, take at least, with a GAP behind each."""
    return sum([span[2] + gap for span in spans[low:high]])
