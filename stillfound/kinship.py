"""Kinship: webs that lead to one another where nobody turns, and how few cards keep all found."""

from stillfound.errors import TooMany
from stillfound.webs import all_found, check_web, check_webs, knots_among
from stillfound.wishes import is_led, widened

MOST_FOR_KIN = 4


def are_kin(one, other):
    """Whether each of two webs leads to the other one where nobody turns."""
    check_webs(one, other)
    return is_led(one, other, False) and is_led(other, one, False)


def least_cards(web):
    """The fewest cards of all webs in which all find the same as in this one."""
    check_web(web)
    return len(least_pairs(web))


def least_web(web):
    """A web of the fewest cards in which all find the same, and to which this one leads without turning."""
    check_web(web)
    pairs = least_pairs(web)
    return tuple([tuple([w for w in range(len(web)) if (u, w) in pairs]) for u in range(len(web))])


def kin(web):
    """The ascending list of all webs that are kin to this one."""
    check_web(web)
    if len(web) > MOST_FOR_KIN:
        raise TooMany(MOST_FOR_KIN)
    # Kin to a web are those out of which shows alone make the same web as out of it.
    widest = widened(web, web)
    return sorted([other for other in webs_within(widest) if widened(other, other) == widest])


def least_pairs(web):
    """The pairs of a person and a card of theirs that are enough: rings of knots, and one between two next ones."""
    found = all_found(web)
    knots = knots_among(found)
    pairs = []
    for knot in knots:
        if len(knot) > 1:
            pairs += [(knot[k - 1], knot[k]) for k in range(len(knot))]
        for other in knots:
            if is_next(knot, other, knots, found):
                pairs.append([(u, w) for u in knot for w in web[u] if w in other][0])
    return pairs


def is_next(knot, other, knots, found):
    """Whether a knot finds another one, and no third one is between."""
    if knot == other or other[0] not in found[knot[0]]:
        return False
    return not any([
        third not in (knot, other) and third[0] in found[knot[0]] and other[0] in found[third[0]]
        for third in knots
    ])


def webs_within(widest):
    """All webs with no other cards than these."""
    webs = [()]
    for pocket in widest:
        webs = [(*web, lot) for web in webs for lot in lots(pocket)]
    return webs


def lots(pocket):
    """All ascending tuples of people of a pocket."""
    told = [()]
    for w in pocket:
        told = told + [(*lot, w) for lot in told]
    return told
