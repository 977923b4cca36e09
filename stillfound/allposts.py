"""All runs of a post: whether a note can be stranded, and how far notes go in a web that stays."""

from itertools import combinations

from stillfound.errors import NoNotes, NoNumber
from stillfound.notes import is_delivered, next_to
from stillfound.plain import check_person, is_between, is_integer, is_person
from stillfound.rules import check_rules
from stillfound.runs import all_runs, first_state, led, moves_from
from stillfound.webs import check_web

MOST_NOTES = 3


def strand(web, rules, notes):
    """Moves behind which no move can be made, and the number of a note that isn't delivered then, or None."""
    check_post(web, rules, notes)
    ahead, steps = all_runs(first_state(web, notes), rules)
    for state in steps:
        left = undelivered(state)
        if left and not steps[state]:
            return moves_to(state, ahead), left[0]
    return None


def is_strand(web, rules, notes, thing):
    """Whether a thing is moves behind which none can be made, and the number of a note not delivered then."""
    check_post(web, rules, notes)
    if not isinstance(thing, tuple) or len(thing) != 2 or not is_integer(thing[1]):
        return False
    state = led(first_state(web, notes), rules, thing[0])
    return state is not None and thing[1] in undelivered(state) and not moves_from(state, rules)


def hops(web, u, t):
    """How often a note from u for t goes on where nobody acts, or None if it waits for ever."""
    check_web(web)
    check_person(u, len(web))
    check_person(t, len(web))
    return hops_between(web, u, t)


def is_straight(web):
    """Whether no note from anybody for anybody ever waits."""
    check_web(web)
    return None not in all_hops(web)


def farthest(web):
    """The most hops of all notes, or None if one waits for ever."""
    check_web(web)
    return most_hops(web)


def fewest_far(many, most):
    """The fewest cards, beside those of neighbours, by which no note among so many takes more than so many hops."""
    if not is_between(many, 2, 5) or not is_between(most, 1, 4):
        raise NoNumber()
    pairs = [(u, w) for u in range(many) for w in range(u + 2, many)]
    # Notes to greater people go by cards of greater people alone, so each way needs as many as the other one.
    return 2 * min([
        len(lot) for size in range(len(pairs) + 1) for lot in combinations(pairs, size)
        if most_hops(mirrored(many, lot)) <= most
    ])


def check_post(web, rules, notes):
    """Raise NoWeb, NoRules and NoNotes for what is none for a post."""
    check_web(web)
    check_rules(rules, len(web))
    if not isinstance(notes, tuple) or len(notes) > MOST_NOTES:
        raise NoNotes()
    if not all([is_pair_of(note, len(web)) for note in notes]):
        raise NoNotes()


def is_pair_of(thing, many):
    """Whether a thing is a pair of two of so many people."""
    return isinstance(thing, tuple) and len(thing) == 2 and all([is_person(u, many) for u in thing])


def undelivered(state):
    """The ascending list of the numbers of all notes that are not delivered in a state."""
    return [number for number, note in enumerate(state[1]) if not is_delivered(note)]


def moves_to(state, ahead):
    """The moves that lead to a state, where a dict tells the state and move ahead of each one."""
    moves = []
    while ahead[state] is not None:
        state, move = ahead[state]
        moves.append(move)
    return tuple(moves[::-1])


def hops_between(web, u, t):
    """What hops tells of two people of a web."""
    many = 0
    while u != t:
        u = next_to(web, u, t)
        if u is None:
            return None
        many += 1
    return many


def all_hops(web):
    """The hops from everybody to everybody."""
    return [hops_between(web, u, t) for u in range(len(web)) for t in range(len(web))]


def most_hops(web):
    """What farthest tells of a web."""
    told = all_hops(web)
    return None if None in told else max(told)


def mirrored(many, lot):
    """The web of the cards of neighbours and of these pairs of people at one another."""
    return tuple([
        tuple([w for w in range(many) if abs(u - w) == 1 or (u, w) in lot or (w, u) in lot]) for u in range(many)
    ])
