"""What [20] and [21] tell, gone through by hand, without the package."""

from tests.streams import pictures_by_hand


def load_by_hand(text):
    codes = [("hide",), ("clear",)]
    for number in range(len(text)):
        codes += [("at", number, 0)] + [("put", sign) for sign in text[number]]
    return codes


def picture_by_hand(screen, text):
    rows = [list(" " * screen[1]) for _ in range(screen[0])]
    for row, line in enumerate(text):
        for column, sign in enumerate(line):
            rows[row][column] = sign
    return tuple("".join(row) for row in rows)


def laid_by_hand(cues):
    """The STREAM by which CUES are SENT, laid backwards frame by frame; or the number of the first that is short."""
    if not cues:
        return ()
    begins = {start: number for number, (start, _, _) in enumerate(cues)}
    ends = {end for _, end, _ in cues}
    codes = {}
    left, loading = [], None
    shorts = []
    for frame in range(cues[-1][1], -1, -1):
        if frame in begins:
            if left:
                shorts.append(loading)
            loading = begins[frame]
            left = load_by_hand(cues[loading][2])
            codes[frame] = ("swap",)
        elif frame in ends:
            codes[frame] = ("wipe",)
        elif left:
            codes[frame] = left.pop()
        else:
            codes[frame] = ("idle",)
    if left:
        shorts.append(loading)
    if shorts:
        return min(shorts)
    return tuple(codes[frame] for frame in range(len(codes)))


def told_pictures(screen, cues):
    """What is to be shown at each frame."""
    many = cues[-1][1] + 1 if cues else 0
    found = [(" " * screen[1],) * screen[0]] * many
    for start, end, text in cues:
        for frame in range(start, end):
            found[frame] = picture_by_hand(screen, text)
    return tuple(found)


def sends_by_hand(screen, cues, codes):
    """Whether a STREAM shows what is told, and is as long."""
    return pictures_by_hand(screen, codes) == told_pictures(screen, cues)


def shown_by_hand(screen, codes):
    """What a STREAM shows, frame by frame."""
    blank = (" " * screen[1],) * screen[0]
    found = []
    at = pictures_by_hand(screen, codes)
    for frame in range(len(at)):
        if at[frame] != blank and (frame == 0 or at[frame - 1] != at[frame]):
            end = frame
            while end < len(at) and at[end] == at[frame]:
                end += 1
            found.append((frame, end, at[frame]))
    return tuple(found)


def some_text(chance, screen, signs="ab ", shortest=1):
    lines = []
    for _ in range(chance.randint(1, screen[0])):
        many = chance.randint(min(shortest, screen[1]), screen[1])
        line = "".join(chance.choices(signs, k=many))
        lines.append(chance.choice("ab") + line[1:-1] + chance.choice("ab") if many > 1 else chance.choice("ab"))
    return tuple(lines)


def some_sendable(chance, screen, many, widest, touch=0.3):
    """CUES with gaps up to widest, of which some touch."""
    cues = []
    frame = chance.randint(0, widest)
    for _ in range(many):
        end = frame + chance.randint(1, widest)
        cues.append((frame, end, some_text(chance, screen)))
        frame = end if chance.random() < touch else end + chance.randint(1, widest)
    return tuple(cues)
