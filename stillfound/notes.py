"""Notes: triples of a place, a person and whom the note is for, and where each goes on.

A note ("with", u, t) is with u and for t, a note ("way", v, t) on the way to v.
"""

WITH = "with"
WAY = "way"


def next_to(web, u, t):
    """To whom a note with u for t goes on, or None if it waits or is delivered."""
    if u < t:
        return max([w for w in web[u] if u < w <= t], default=None)
    return min([w for w in web[u] if t <= w < u], default=None)


def carried(web, note):
    """A note behind a carry, or None if it can't go on."""
    place, u, t = note
    if place == WAY:
        return None
    w = next_to(web, u, t)
    return None if w is None else (WAY, w, t)


def landed(note):
    """A note behind a landing, or None if it is not on the way."""
    place, v, t = note
    return (WITH, v, t) if place == WAY else None


def is_delivered(note):
    """Whether a note is with whom it is for."""
    place, u, t = note
    return place == WITH and u == t


def first_on_way(notes):
    """The least number of a note on the way, or None."""
    return min([number for number, note in enumerate(notes) if landed(note) is not None], default=None)


def first_to_go(web, notes):
    """The least number of a note that can go on, or None."""
    return min([number for number, note in enumerate(notes) if carried(web, note) is not None], default=None)
