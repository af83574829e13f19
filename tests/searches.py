"""What [17], [18] and [19] tell, gone through by hand with the decoder of tests.streams, without the package."""

from itertools import combinations, product
from math import lcm

from tests.streams import Decoder, all_states, controls_by_hand, first_by_hand, led_by_hand, summary_by_hand


# Knowledge.

def decoder_of(screen, control, cells):
    """A decoder whose cells hold what is told."""
    rows, columns = screen
    lines = [cells[place:place + columns] for place in range(0, 2 * rows * columns, columns)]
    return Decoder(screen, *control, lines[:rows], lines[rows:])


def first_knowledge(screen):
    return tuple((control, ("",) * (2 * screen[0] * screen[1])) for control in controls_by_hand(screen))


def knowledge_of_states(screen, codes, signs="?!"):
    """Over all STATES of these signs, none of which the CODES bring."""
    known = {}
    for state in all_states(screen, signs):
        after = led_by_hand(screen, state, codes)
        known.setdefault(state[:3], []).append((after[:3], "".join(after[3] + after[4])))
    pairs = set()
    for behind in known.values():
        columns = zip(*[cells for _, cells in behind])
        pairs.add((behind[0][0], tuple(signs[0] if len(set(signs)) == 1 else "" for signs in columns)))
    return tuple(sorted(pairs))


def knowledge_by_hand(screen, codes):
    """By following each cell."""
    return tuple(sorted({(after, tuple(cell if isinstance(cell, str) else "" for cell in cells))
                         for _, after, cells in summary_by_hand(screen, codes)}))


def later_by_hand(screen, known, code):
    found = set()
    for control, cells in known:
        decoder = decoder_of(screen, control, cells)
        decoder.take(code)
        found.add((decoder.control(), decoder.cells()))
    return tuple(sorted(found))


def all_is_sure(screen, known):
    shown = {cells[:screen[0] * screen[1]] for _, cells in known}
    return len(shown) == 1 and "" not in shown.pop()


def knowledges_by_hand(screen, choice):
    """All KNOWLEDGES that come, in rows by how many CODES they need, up to the first one in which all is SURE."""
    rows = [[first_knowledge(screen)]]
    seen = set(rows[0])
    while rows[-1] and not any(all_is_sure(screen, known) for known in rows[-1]):
        behind = []
        for known in rows[-1]:
            for code in choice:
                other = later_by_hand(screen, known, code)
                if other not in seen:
                    seen.add(other)
                    behind.append(other)
        rows.append(behind)
    return rows


def shortest_waking(screen, choice, most):
    """How many CODES the shortest STREAM that wakes has, among all of at most so many; None if none does."""
    for many in range(most + 1):
        for codes in product(choice, repeat=many):
            if all_is_sure(screen, knowledge_by_hand(screen, codes)):
                return many
    return None


# Channels.

def phases_by_hand(channels):
    return lcm(*[len(ring) for ring in channels])


def good_by_hand(screen, channels, rounds):
    found = {(" " * screen[1],) * screen[0]}
    for ring in channels:
        decoder = Decoder(screen, *first_by_hand(screen))
        for code in ring * rounds:
            decoder.take(code)
            found.add(decoder.memory("shown"))
    return tuple(sorted(found))


def zapped_by_hand(screen, channels, zap):
    decoder = Decoder(screen, *first_by_hand(screen))
    for frame, number in enumerate(zap):
        decoder.take(channels[number][frame % len(channels[number])])
    return decoder.state()


def shortest_zap(screen, channels, most):
    """How many frames the shortest ZAP that shows a false PICTURE has, among all of at most so many."""
    good = good_by_hand(screen, channels, 80)
    for many in range(1, most + 1):
        for zap in product(range(len(channels)), repeat=many):
            if zapped_by_hand(screen, channels, zap)[3] not in good:
                return many
    return None


def pairs_by_hand(screen, channels):
    """All pairs (PHASE, STATE) that come, in rows by how many frames they need, up to the first false PICTURE."""
    good = good_by_hand(screen, channels, 80)
    phases = phases_by_hand(channels)
    rows = [[(0, first_by_hand(screen))]]
    seen = set(rows[0])
    while rows[-1] and all(state[3] in good for _, state in rows[-1]):
        behind = []
        for phase, state in rows[-1]:
            for ring in channels:
                other = ((phase + 1) % phases, led_by_hand(screen, state, (ring[phase % len(ring)],)))
                if other not in seen:
                    seen.add(other)
                    behind.append(other)
        rows.append(behind)
    return rows


def clean_holds(screen, channels, table):
    """Whether a tuple of pairs (PHASE, STATE) is as [18] tells."""
    good = good_by_hand(screen, channels, 80)
    phases = phases_by_hand(channels)
    if not all(ahead < pair for ahead, pair in zip(table, table[1:])) or (0, first_by_hand(screen)) not in table:
        return False
    for phase, state in table:
        if state[3] not in good or not 0 <= phase < phases:
            return False
        for ring in channels:
            if ((phase + 1) % phases, led_by_hand(screen, state, (ring[phase % len(ring)],))) not in table:
                return False
    return True


# Lost codes.

def states_with_lost(screen, codes, frames):
    """The STATES ahead of each frame and behind the last one, if the CODES of some frames are lost."""
    decoder = Decoder(screen, *first_by_hand(screen))
    found = [decoder.state()]
    for frame, code in enumerate(codes):
        if frame not in frames:
            decoder.take(code)
        found.append(decoder.state())
    return found


def fair_by_hand(screen, codes):
    return tuple(sorted({state[3] for state in states_with_lost(screen, codes, ())}))


def is_unfair(screen, codes, frames):
    fair = fair_by_hand(screen, codes)
    return any(state[3] not in fair for state in states_with_lost(screen, codes, frames))


def least_unfair(screen, codes):
    """How few lost CODES make a PICTURE that is not FAIR, among all sets of them; None if none does."""
    for many in range(len(codes) + 1):
        for frames in combinations(range(len(codes)), many):
            if is_unfair(screen, codes, frames):
                return many
    return None


def triples_by_hand(screen, codes, most):
    """All triples that come if at most so many are lost, by all sets of them, of each STATE of a FRAME one."""
    least = {}
    for many in range(min(most, len(codes)) + 1):
        for frames in combinations(range(len(codes)), many):
            for frame, state in enumerate(states_with_lost(screen, codes, frames)):
                lost = len([place for place in frames if place < frame])
                least[frame, state] = min(lost, least.get((frame, state), lost))
    return tuple(sorted((frame, lost, state) for (frame, state), lost in least.items()))


def safe_holds(screen, codes, most, table):
    """Whether a tuple of triples (FRAME, LOST, STATE) is as [19] tells."""
    fair = fair_by_hand(screen, codes)
    if not all(ahead < triple for ahead, triple in zip(table, table[1:])):
        return False
    if (0, 0, first_by_hand(screen)) not in table:
        return False
    for frame, lost, state in table:
        if state[3] not in fair or not 0 <= frame <= len(codes) or not 0 <= lost <= most:
            return False
        if frame < len(codes):
            behind = led_by_hand(screen, state, (codes[frame],))
            if not any((frame + 1, less, behind) in table for less in range(lost + 1)):
                return False
            if lost < most and not any((frame + 1, less, state) in table for less in range(lost + 2)):
                return False
    return True
