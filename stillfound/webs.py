"""Webs: who holds whose card, and who finds whom by that."""

from stillfound.errors import NoWeb
from stillfound.plain import is_ascending, is_person

MOST_PEOPLE = 9


def is_web(thing):
    """Whether a thing is a web."""
    if not isinstance(thing, tuple) or not 1 <= len(thing) <= MOST_PEOPLE:
        return False
    return all([is_pocket(thing[u], u, len(thing)) for u in range(len(thing))])


def is_pocket(thing, u, many):
    """Whether a thing tells the cards that u, one of so many people, may hold."""
    if not isinstance(thing, tuple):
        return False
    return all([is_person(w, many) and w != u for w in thing]) and is_ascending(thing)


def check_web(thing):
    """Raise NoWeb for what is no web."""
    if not is_web(thing):
        raise NoWeb()


def check_webs(one, other):
    """Raise NoWeb for one that is no web, then for another one that is none of as many people."""
    check_web(one)
    if not is_web(other) or len(other) != len(one):
        raise NoWeb()


def finds(web):
    """For each person the ascending tuple of whom they find."""
    check_web(web)
    return all_found(web)


def pieces(web):
    """The ascending tuple of all pieces."""
    check_web(web)
    return pieces_among(web)


def knots(web):
    """The ascending tuple of all knots."""
    check_web(web)
    return knots_among(all_found(web))


def steps_from(pockets, start):
    """For each person whom the start finds, how many cards the shortest chain there has."""
    steps = {start: 0}
    last = [start]
    while last:
        further = []
        for u in last:
            for w in pockets[u]:
                if w not in steps:
                    steps[w] = steps[u] + 1
                    further.append(w)
        last = further
    return steps


def found_from(pockets, start):
    """The ascending tuple of all to whom a chain of cards leads from the start."""
    return tuple(sorted(steps_from(pockets, start)))


def all_found(pockets):
    """For each person the ascending tuple of whom they find by these pockets."""
    return tuple([found_from(pockets, u) for u in range(len(pockets))])


def without(pockets, gone):
    """These pockets where some people have vanished: their cards, and what they hold."""
    return tuple([
        () if u in gone else tuple([w for w in pocket if w not in gone]) for u, pocket in enumerate(pockets)
    ])


def both_ways(pockets):
    """These pockets with, for each card, also one that leads back."""
    linked = [list(pocket) for pocket in pockets]
    for u, pocket in enumerate(pockets):
        for w in pocket:
            linked[w].append(u)
    return linked


def pieces_among(pockets):
    """The pieces of people with these pockets."""
    # Where each link leads both ways, a piece is a knot.
    return knots_among(all_found(both_ways(pockets)))


def knots_among(found):
    """The knots of people who find these."""
    return tuple(sorted({knot_around(u, found) for u in range(len(found))}))


def knot_around(u, found):
    """The ascending tuple of whom u finds and who find u."""
    return tuple([w for w in found[u] if u in found[w]])
