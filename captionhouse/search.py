"""A search by steps: the nearest place of a kind, or all places that come where there is none."""

from captionhouse.errors import TooGreat


def searched(first, follow, is_wanted, most):
    """A way with as few steps as any to a place that is wanted, or None; and all places that come, if it is None.

    follow(place) is the list of the places one step on. A way is the tuple of
    the numbers of its steps in such lists. Refused if more than so many places
    come ahead of one that is wanted, by fewer steps.
    """
    came = {first: None}
    row = [first]
    while row:
        for place in row:
            if is_wanted(place):
                return (_way_to(came, place), [])
        # Here nothing that is wanted comes by so few steps as all these.
        if len(came) > most:
            raise TooGreat(most)
        row = _next_row(came, row, follow)
    return (None, list(came))


def _next_row(came, row, follow):
    """The places that first come one step behind a row; came is told whence."""
    behind = []
    for place in row:
        for number, other in enumerate(follow(place)):
            if other not in came:
                came[other] = (place, number)
                behind.append(other)
    return behind


def _way_to(came, place):
    backwards = []
    while came[place] is not None:
        place, number = came[place]
        backwards.append(number)
    return tuple(backwards[::-1])
