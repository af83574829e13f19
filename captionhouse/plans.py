"""Plans of spoken words, their least ends, and the papers on them."""

from captionhouse.checks import are_counts, is_integer, is_one_of, is_tuple, is_within
from captionhouse.errors import BadPaper, BadRules, BadSpoken, OutOfPlace
from captionhouse.lines import MOST_WORDS, best, is_hold, is_word, lines_of
from captionhouse.spans import all_spans, before_all, limits_of, no_cue_breaks, soonest_cue, span_of

MOST_FRAME = 10 ** 9
NO_LATE = 10 ** 12
LEASTS_OF_RULES = (1, 1, 1, 1, 0, 1, 0, 0, 0)
MOSTS_OF_RULES = (4, 40, 10 ** 9, 10 ** 9, 10 ** 9, 10 ** 9, 10 ** 9, 10 ** 9, 10 ** 9)


def need_spoken(thing):
    """thing itself, if it is SPOKEN."""
    if not is_tuple(thing, 1, MOST_WORDS):
        raise BadSpoken(None)
    begin = 0
    for number, word in enumerate(thing):
        if not is_spoken_word(word) or word[2] < begin:
            raise BadSpoken(number)
        begin = word[2]
    if thing[-1][1] == 1:
        raise BadSpoken(len(thing) - 1)
    return thing


def need_rules(thing):
    """thing itself, if it is RULES."""
    if not is_tuple(thing, 9, 9):
        raise BadRules(None)
    for number, rule in enumerate(thing):
        if not is_within(rule, LEASTS_OF_RULES[number], MOSTS_OF_RULES[number]):
            raise BadRules(number)
        if number == 3 and rule < thing[2]:
            raise BadRules(number)
    return thing


def is_plan(spoken, rules, thing):
    """Whether any value is a PLAN."""
    need_spoken(spoken)
    need_rules(rules)
    if not _has_form_of_plan(thing, len(spoken)):
        return False
    gap, late = limits_of(rules)
    ahead = before_all((gap, late))
    first = 0
    for count, start, end in thing:
        span = span_of(spoken, rules, first, first + count)
        if span is None or not _is_cue(span, rules[3], start, end):
            return False
        if start > spoken[first][2] + late or start < ahead + gap:
            return False
        ahead = end
        first += count
    return True


def least_ends(spoken, rules):
    """The LEAST ENDS of the first K words, for each K from 1 on."""
    need_spoken(spoken)
    need_rules(rules)
    cues = _soonest_cues(all_spans(spoken, rules), limits_of(rules), len(spoken))
    return tuple([_end_of(cue) for cue in cues])


def plan(spoken, rules):
    """A PLAN whose last TO is the LEAST END of all words, or None."""
    need_spoken(spoken)
    need_rules(rules)
    return _soonest_plan(all_spans(spoken, rules), limits_of(rules), len(spoken))


def plan_paper(spoken, rules):
    """A paper on whether there is a PLAN."""
    found = plan(spoken, rules)
    if found is None:
        return ("ends", least_ends(spoken, rules))
    return ("plan", found)


def check_plan(spoken, rules, paper):
    """The word of a paper on whether there is a PLAN, if all of it is as told."""
    need_spoken(spoken)
    need_rules(rules)
    if not is_tuple(paper, 2, 2) or not is_one_of(paper[0], ("plan", "ends")):
        raise BadPaper("form")
    word, told = paper
    if word == "plan" and not is_plan(spoken, rules, told):
        raise BadPaper("plan")
    if word == "ends" and not _are_ends(spoken, rules, told):
        raise BadPaper("ends")
    return word


def least_late(spoken, rules):
    """The LEAST LATE of SPOKEN and RULES, or None."""
    need_spoken(spoken)
    need_rules(rules)
    spans = all_spans(spoken, rules)
    gap = rules[4]
    # No FROM of a plan that begins as soon as it can comes near to NO_LATE.
    if _soonest_plan(spans, (gap, NO_LATE), len(spoken)) is None:
        return None
    low = 0
    high = NO_LATE
    while low < high:
        middle = (low + high) // 2
        if _soonest_plan(spans, (gap, middle), len(spoken)) is None:
            low = middle + 1
        else:
            high = middle
    return low


def plan_file(spoken, rules, thing):
    """The FILE of a PLAN."""
    if not is_plan(spoken, rules, thing):
        raise OutOfPlace("no plan")
    cues = []
    first = 0
    for count, start, end in thing:
        words = tuple([word[:2] for word in spoken[first:first + count]])
        cues.append((start, end, lines_of(words, best(words, rules[:2]))))
        first += count
    return tuple(cues)


def is_spoken_word(thing):
    """Whether thing can be a word of SPOKEN, by itself; it may HOLD."""
    if not (is_tuple(thing, 4, 4) and is_word(thing[0]) and is_hold(thing[1])):
        return False
    return is_within(thing[2], 0, MOST_FRAME) and is_within(thing[3], thing[2], MOST_FRAME)


def are_bounds(thing, many):
    """Whether thing has the form of BOUNDS of so many words, with None for all of them."""
    if not is_tuple(thing, many, many):
        return False
    return all([bound is None or is_integer(bound) for bound in thing]) and thing[-1] is None


def _has_form_of_plan(thing, many):
    """Whether thing is a tuple of triples of integers, with counts of so many words together."""
    if not isinstance(thing, tuple) or not all([_is_triple(cue) for cue in thing]):
        return False
    return are_counts(tuple([cue[0] for cue in thing]), many)


def _is_triple(thing):
    return is_tuple(thing, 3, 3) and all([is_integer(number) for number in thing])


def _is_cue(span, most, start, end):
    """Whether a cue of a span can go from start to end, whatever stands ahead of it."""
    left, _, time, last_end = span
    return start >= left and end >= last_end and time <= end - start <= most


def _soonest_cues(spans, limits, many):
    """For each number of words from 1 on what soonest_cue tells, if all cues ahead end soonest."""
    ends = [before_all(limits)]
    cues = []
    for behind in range(1, many + 1):
        cue = soonest_cue(spans, limits, ends, behind)
        cues.append(cue)
        ends.append(_end_of(cue))
    return cues


def _end_of(cue):
    """TO of what soonest_cue tells, or None."""
    if cue is None:
        return None
    return cue[0]


def _soonest_plan(spans, limits, many):
    cues = _soonest_cues(spans, limits, many)
    if cues[-1] is None:
        return None
    backwards = []
    behind = many
    while behind > 0:
        end, first, start = cues[behind - 1]
        backwards.append((behind - first, start, end))
        behind = first
    return tuple(backwards[::-1])


def _are_ends(spoken, rules, thing):
    """Whether thing is BOUNDS that no cue breaks, so that there is no PLAN."""
    if not are_bounds(thing, len(spoken)):
        return False
    limits = limits_of(rules)
    bounds = [before_all(limits), *thing]
    return no_cue_breaks(all_spans(spoken, rules), limits, bounds, bounds)
