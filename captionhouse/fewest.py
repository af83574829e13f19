"""Plans with the fewest cues, the papers on them, and how many counts have a plan."""

from captionhouse.checks import is_tuple
from captionhouse.errors import BadPaper, Nothing, TooGreat
from captionhouse.plans import are_bounds, is_plan, need_rules, need_spoken
from captionhouse.spans import all_spans, before_all, cue_behind, limits_of, no_cue_breaks, soonest_cue

MOST_WORDS_CUT = 16


def fewest_cues(spoken, rules):
    """FEWEST, or None without a PLAN."""
    need_spoken(spoken)
    need_rules(rules)
    tables = _tables(spoken, rules)
    if tables is None:
        return None
    return len(tables)


def fewest_paper(spoken, rules):
    """The paper on FEWEST."""
    need_spoken(spoken)
    need_rules(rules)
    tables = _tables(spoken, rules)
    if tables is None:
        raise Nothing("there is no plan")
    bounds = [tuple(_ends(table)[1:]) for table in tables[:-1]]
    return (_plan_of(tables), tuple(bounds))


def check_fewest(spoken, rules, paper):
    """FEWEST, if all of its paper is as told.

    The PLAN of the paper says how many TABLES there are to be; that no PLAN
    has fewer cues is for the TABLES to show.
    """
    need_spoken(spoken)
    need_rules(rules)
    if not is_tuple(paper, 2, 2):
        raise BadPaper("form")
    found, tables = paper
    if not is_plan(spoken, rules, found):
        raise BadPaper("plan")
    if not _are_tables(spoken, rules, len(found), tables):
        raise BadPaper("tables")
    return len(found)


def many_cuts(spoken, rules):
    """How many COUNTS have a PLAN."""
    need_spoken(spoken)
    need_rules(rules)
    if len(spoken) > MOST_WORDS_CUT:
        raise TooGreat(MOST_WORDS_CUT)
    spans = all_spans(spoken, rules)
    limits = limits_of(rules)
    # Of each COUNTS the EARLIEST PLAN alone is followed: it goes on if any does.
    ways = [{before_all(limits): 1}]
    for behind in range(1, len(spoken) + 1):
        ways.append(_ways_to_end(spans, limits, ways, behind))
    return sum(ways[-1].values())


def _ways_to_end(spans, limits, ways, behind):
    """For each TO of an EARLIEST PLAN of the words up to behind: how many COUNTS have it."""
    found = {}
    for first in range(behind):
        if (first, behind) in spans:
            for ahead, many in ways[first].items():
                cue = cue_behind(spans[first, behind], ahead, limits)
                if cue is not None:
                    found[cue[1]] = found.get(cue[1], 0) + many
    return found


def _tables(spoken, rules):
    """For each number of cues from 1 to FEWEST what soonest_cue tells of each number of words.

    None without a PLAN.
    """
    spans = all_spans(spoken, rules)
    limits = limits_of(rules)
    ends = _ends_of_none(limits, len(spoken))
    tables = []
    while len(tables) < len(spoken):
        table = [soonest_cue(spans, limits, ends, behind) for behind in range(1, len(spoken) + 1)]
        tables.append(table)
        if table[-1] is not None:
            return tables
        ends = _ends(table)
    return None


def _ends_of_none(limits, many):
    """Where no cues at all end, for each number of words from 0 on: they are of 0 words alone."""
    return [before_all(limits)] + [None] * many


def _ends(table):
    """Where the cues of a table end, for each number of words from 0 on, which they cannot be of."""
    ends = [None]
    for cue in table:
        if cue is None:
            ends.append(None)
        else:
            ends.append(cue[0])
    return ends


def _plan_of(tables):
    """The PLAN whose last cue is the last one of the last table."""
    backwards = []
    behind = len(tables[-1])
    for table in tables[::-1]:
        end, first, start = table[behind - 1]
        backwards.append((behind - first, start, end))
        behind = first
    return tuple(backwards[::-1])


def _are_tables(spoken, rules, many_cues, thing):
    """Whether thing is TABLES, one for each number of cues below many_cues, that no cue breaks."""
    if not is_tuple(thing, many_cues - 1, many_cues - 1):
        return False
    spans = all_spans(spoken, rules)
    limits = limits_of(rules)
    ends = _ends_of_none(limits, len(spoken))
    for bounds in thing:
        if not are_bounds(bounds, len(spoken)):
            return False
        row = [None, *bounds]
        if not no_cue_breaks(spans, limits, ends, row):
            return False
        ends = row
    return True
