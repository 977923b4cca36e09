"""Wishes: the webs to which a web leads, a script for each, or what bars it."""

from stillfound.deeds import is_row, walked, with_card
from stillfound.errors import TooMany
from stillfound.webs import all_found, both_ways, check_webs, pieces_among, steps_from

MOST_FOR_FEWEST = 3


def leads(web, wish, turning):
    """Whether some row of deeds leads from the web to the wish."""
    check_webs(web, wish)
    return is_led(web, wish, turning)


def script(web, wish, turning):
    """A row of deeds that leads from the web to the wish, or None."""
    check_webs(web, wish)
    if not is_led(web, wish, turning):
        return None
    linked = both_ways(wish) if turning else wish
    shows, widest = spread(web, all_found(linked))
    return tuple(shows + trims(widest, wish, linked))


def is_script(web, wish, turning, thing):
    """Whether a thing is a row that leads from the web to the wish."""
    check_webs(web, wish)
    if not is_row(thing):
        return False
    index, last = walked((web, ()), thing, turning)
    return index is None and last == (wish, ())


def full(web, wish):
    """The web with all cards that shows bring without leading beyond the wish, or None."""
    check_webs(web, wish)
    if first_beyond(all_found(web), all_found(wish)) is not None:
        return None
    return widened(web, wish)


def lack(web, wish):
    """What bars the way from the web to the wish where nobody turns, or None."""
    check_webs(web, wish)
    return bar(web, wish)


def fewest(web, wish, turning):
    """The fewest deeds that lead from the web to the wish, or None."""
    check_webs(web, wish)
    if len(web) > MOST_FOR_FEWEST:
        raise TooMany(MOST_FOR_FEWEST)
    if not is_led(web, wish, turning):
        return None
    return fewest_steps(marks(web), marks(wish), changes(len(web), turning))


def is_led(web, wish, turning):
    """Whether a web leads to another one of as many people."""
    if turning:
        return pieces_among(web) == pieces_among(wish)
    return bar(web, wish) is None


def bar(web, wish):
    """What lack tells of two webs of as many people."""
    lost = first_beyond(all_found(web), all_found(wish))
    if lost is not None:
        return ("found", *lost)
    missing = first_beyond(wish, widened(web, wish))
    if missing is not None:
        return ("card", *missing)
    return None


def first_beyond(one, other):
    """The least pair of a person and somebody in their row in the one, but not in the other."""
    for u in range(len(one)):
        for w in one[u]:
            if w not in other[u]:
                return u, w
    return None


def widened(web, wish):
    """What full tells of a web in which nobody finds somebody whom they don't find in the wish."""
    _, widest = spread(web, all_found(wish))
    return widest


def spread(web, allowed):
    """All shows that bring new cards of people who are allowed, each letter coming, and the web behind."""
    row = []
    many = len(web)
    before = None
    while web != before:
        before = web
        for u in range(many):
            for v, w in news(web, u, allowed):
                row += [("show", u, v, w), ("come", v, w)]
                web = with_card(web, v, w)
    return row, web


def news(web, u, allowed):
    """All pairs of somebody to whom u can show a card and a new card that they may get."""
    return [
        (v, w) for v in web[u] for w in [*web[u], u]
        if w != v and w in allowed[v] and w not in web[v]
    ]


def trims(web, wish, linked):
    """The deeds that leave just the wish's cards where everybody holds the cards of all whom links lead to."""
    steps = [steps_from(linked, u) for u in range(len(web))]
    needless = [(steps[u][w], u, w) for u in range(len(web)) for w in web[u] if w not in wish[u]]
    row = []
    # The furthest go first, so that each goes to somebody who still holds the same card.
    for away, u, w in sorted(needless, reverse=True):
        if away == 1:
            row += [("turn", u, w), ("come", w, u)]
        else:
            v = [x for x in linked[u] if steps[x].get(w) == away - 1][0]
            row += [("give", u, v, w), ("come", v, w)]
    return row


def pairs_among(many):
    """All pairs of unlike people of so many."""
    return [(u, w) for u in range(many) for w in range(many) if u != w]


def marks(web):
    """The cards of a web as bits of one integer: the fewest deeds are looked for among many standings."""
    return sum([1 << k for k, (u, w) in enumerate(pairs_among(len(web))) if w in web[u]])


def changes(many, turning):
    """All deeds as triples of bits: those that must be there, those that go, those that come then."""
    pairs = pairs_among(many)
    card = {pair: 1 << k for k, pair in enumerate(pairs)}
    letter = {pair: 1 << (k + len(pairs)) for k, pair in enumerate(pairs)}
    told = []
    for u, w in pairs:
        told.append((letter[u, w], letter[u, w], card[u, w]))
        told.append((card[u, w], 0, letter[w, u]))
        if turning:
            told.append((card[u, w], card[u, w], letter[w, u]))
        for v in range(many):
            if v not in (u, w):
                both = card[u, v] | card[u, w]
                told.append((both, 0, letter[v, w]))
                told.append((both, card[u, w], letter[v, w]))
    return told


def fewest_steps(start, goal, steps):
    """How many steps lead from the start to the goal, which they can reach."""
    seen = {start}
    last = [start]
    many = 0
    while goal not in seen:
        many += 1
        further = []
        for standing in last:
            for needed, gone, new in steps:
                behind = (standing & ~gone) | new
                if standing & needed == needed and behind not in seen:
                    seen.add(behind)
                    further.append(behind)
        last = further
    return many
