"""All runs of a town with notes: the states through which they come, and the moves between them.

A state is a pair of a standing and the tuple of all notes; where there are none, it is empty.
"""

from stillfound.deeds import done, is_letter
from stillfound.errors import TooMany
from stillfound.notes import WITH, carried, landed
from stillfound.plain import is_between, is_person
from stillfound.rules import acted

MOST_STATES = 5000


def first_state(web, notes):
    """The state of a web without letters, each note of pairs (u, t) being with u."""
    return (web, ()), tuple([(WITH, u, t) for u, t in notes])


def moved(state, rules, move):
    """The state behind what may be a move, or None if it can't be made then."""
    standing, notes = state
    word, k = move[:2]
    if word == "come":
        return (done(standing, move), notes) if move[1:] in standing[1] else None
    if word == "act":
        behind = acted(standing, k, rules[k])
        return None if behind == standing else (behind, notes)
    note = landed(notes[k]) if word == "land" else carried(standing[0], notes[k])
    return None if note is None else (standing, (*notes[:k], note, *notes[k + 1:]))


def moves_from(state, rules):
    """The list of all moves that can be made in a state, each with the state behind it."""
    standing, notes = state
    moves = [("act", u) for u in range(len(rules))] + [("come", v, w) for v, w in standing[1]]
    moves += [(word, number) for word in ("carry", "land") for number in range(len(notes))]
    told = [(move, moved(state, rules, move)) for move in moves]
    return [(move, behind) for move, behind in told if behind is not None]


def all_runs(start, rules):
    """Two dicts of all states of runs: the pair of the state and move ahead, None for the start; and the moves from it.

    A state stands in the dicts behind all that fewer moves lead to.
    """
    ahead = {start: None}
    steps = {}
    last = [start]
    while last:
        further = []
        for state in last:
            steps[state] = moves_from(state, rules)
            for move, behind in steps[state]:
                if behind not in ahead:
                    ahead[behind] = (state, move)
                    further.append(behind)
            if len(ahead) > MOST_STATES:
                raise TooMany(MOST_STATES)
        last = further
    return ahead, steps


def is_move(thing, many, notes):
    """Whether a thing may be a move among so many people with so many notes."""
    if not isinstance(thing, tuple) or len(thing) not in (2, 3):
        return False
    if len(thing) == 3:
        return thing[0] == "come" and is_letter(thing[1:], many)
    word, k = thing
    if word == "act":
        return is_person(k, many)
    return word in ("carry", "land") and is_between(k, 0, notes - 1)


def led(state, rules, thing):
    """The state to which a thing leads if it is a tuple of moves that can be made one behind another; else None."""
    if not isinstance(thing, tuple):
        return None
    for move in thing:
        if not is_move(move, len(rules), len(state[1])):
            return None
        state = moved(state, rules, move)
        if state is None:
            return None
    return state
