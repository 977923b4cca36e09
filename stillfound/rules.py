"""Rules by which a person acts on the own cards, and who is lost by them in any web."""

from stillfound.deeds import arrived
from stillfound.errors import BadRule, NoNumber, NoRules, NoShape
from stillfound.plain import is_ascending, is_between
from stillfound.webs import found_from, is_web, steps_from

# Nine people at the most: a pocket has eight cards.
MOST_CARDS = 8

# What stands for the own card, which is in no pocket.
OWN = -1


class Rule:
    """How a person acts: for shapes of the pocket what is kept and what is sent."""

    def __init__(self, most, rows):
        if not is_between(most, 1, MOST_CARDS):
            raise BadRule("most")
        if not isinstance(rows, dict) or not all([is_shape(key, 1, most) for key in rows]):
            raise BadRule("rows")
        for shape in sorted(rows):
            if not is_pair(rows[shape], sum(shape)):
                raise BadRule(shape)
        self.most = most
        self._rows = {shape: rows[shape] for shape in rows}

    def __eq__(self, other):
        return isinstance(other, Rule) and self.most == other.most and self._rows == other._rows

    def table(self):
        """The dict of the rows."""
        return {shape: self._rows[shape] for shape in self._rows}

    def pair(self, shape):
        """What is kept and what is sent with a pocket of this shape, or None."""
        return self._rows.get(shape)


def is_shape(thing, least, most):
    """Whether a thing is a shape of together so many cards."""
    if not isinstance(thing, tuple) or len(thing) != 2:
        return False
    return all([is_between(side, 0, most) for side in thing]) and least <= sum(thing) <= most


def is_pair(thing, many):
    """Whether a thing is what may be kept and sent of so many cards."""
    if not isinstance(thing, tuple) or len(thing) != 2:
        return False
    kept, sent = thing
    if not isinstance(kept, tuple) or not isinstance(sent, tuple):
        return False
    if not all([is_between(k, 0, many - 1) for k in kept]) or not is_ascending(kept):
        return False
    return all([is_sending(item, many) for item in sent]) and is_ascending(sent)


def is_sending(thing, many):
    """Whether a thing tells to whom of a pocket of so many a card is sent, and which."""
    if not isinstance(thing, tuple) or len(thing) != 2:
        return False
    to, what = thing
    return is_between(to, 0, many - 1) and is_between(what, OWN, many - 1) and to != what


def check_rule(thing):
    """Raise NoRules for what is neither a rule nor None, for whoever never acts."""
    if thing is not None and not isinstance(thing, Rule):
        raise NoRules()


def check_rules(thing, many):
    """Raise NoRules for what is no tuple of a rule or None for each of so many people."""
    if not isinstance(thing, tuple) or len(thing) != many:
        raise NoRules()
    for rule in thing:
        check_rule(rule)


def check_shape(thing):
    """Raise NoShape for what is no shape of a pocket in any web."""
    if not is_shape(thing, 0, MOST_CARDS):
        raise NoShape()


def check_most(thing):
    """Raise NoNumber for what can't be the most cards of a rule."""
    if not is_between(thing, 1, MOST_CARDS):
        raise NoNumber()


def acted(standing, u, rule):
    """The standing behind an act of u by a rule, or by None."""
    web, letters = standing
    pocket = web[u]
    below = len([w for w in pocket if w < u])
    pair = None if rule is None else rule.pair((below, len(pocket) - below))
    if pair is None:
        return standing
    kept, sent = pair
    told = [(pocket[to], u if what == OWN else pocket[what]) for to, what in sent]
    held = tuple([pocket[k] for k in kept])
    return (*web[:u], held, *web[u + 1:]), tuple(sorted({letter for letter in [*letters, *told]}))


def company(shape):
    """The web in which the one in the middle holds the cards of a pocket of this shape, and nobody else any."""
    below, above = shape
    pocket = tuple([w for w in range(below + above + 1) if w != below])
    return ((),) * below + (pocket,) + ((),) * above


def company_behind(rule, shape):
    """The standing of the small company behind an act of the one in the middle."""
    return acted((company(shape), ()), shape[0], rule)


def small_web(rule, shape):
    """The web of a pocket's people and the one in the middle behind an act and all its letters."""
    check_shape(shape)
    return arrived(company_behind(rule, shape))


def lost(rule):
    """The ascending list of all shapes with the indexes in the pocket of those who are lost by an act."""
    return [(*shape, k) for shape in sorted(rule.table()) for k in lost_indexes(rule, shape)]


def lost_indexes(rule, shape):
    """The ascending list of the indexes in a pocket of this shape of those who are lost by an act."""
    middle = shape[0]
    seen = found_from(arrived(company_behind(rule, shape)), middle)
    return [k for k, w in enumerate(company(shape)[middle]) if w not in seen]


def lost_web(rule):
    """A web, an actor and somebody in their pocket whom the act loses, or None."""
    told = lost(rule)
    if not told:
        return None
    below, above, k = told[0]
    web = company((below, above))
    return web, below, web[below][k]


def is_lost(rule, thing):
    """Whether a thing is a web, an actor and somebody in their pocket whom the act loses."""
    if not isinstance(thing, tuple) or len(thing) != 3:
        return False
    web, u, w = thing
    if not is_web(web) or not all([is_between(x, 0, len(web) - 1) for x in (u, w)]):
        return False
    return w in web[u] and w not in found_from(arrived(acted((web, ()), u, rule)), u)


def as_deeds(rule, shape):
    """Shows and gives of the one in the middle that come to the same as the act, or None."""
    check_shape(shape)
    if lost_indexes(rule, shape):
        return None
    middle = shape[0]
    web, letters = company_behind(rule, shape)
    gifts = gifts_for(company(shape)[middle], web[middle], letters, steps_from(arrived((web, letters)), middle))
    shows = [("show", middle, v, w) for v, w in letters if (v, w) not in gifts]
    return tuple(shows + [("give", middle, v, w) for v, w in gifts])


def gifts_for(pocket, kept, letters, steps):
    """For each card that isn't kept a letter with it, in an order in which all of them can be given."""
    gifts = []
    # The furthest go first: whoever gets a card is nearer, so that their own card is still held.
    for away, w in sorted([(steps[w], w) for w in pocket if w not in kept], reverse=True):
        gifts.append([(v, x) for v, x in letters if x == w and steps[v] < away][0])
    return gifts


def shapes(most):
    """The ascending list of all shapes of together 1 to so many cards."""
    return [
        (below, above) for below in range(most + 1) for above in range(most + 1 - below)
        if below + above > 0
    ]


def taken(function, most):
    """The rule with the rows that a function tells for the shapes, where it doesn't tell None."""
    check_most(most)
    told = {(below, above): function(below, above) for below, above in shapes(most)}
    return Rule(most, {shape: told[shape] for shape in told if told[shape] is not None})


def levelling(most):
    """The rule that keeps the nearest card of each side, and shows neighbours of a side to one another."""
    check_most(most)
    return Rule(most, {(below, above): level_pair(below, above) for below, above in shapes(most)})


def level_pair(below, above):
    """What is kept and sent to level a pocket of this shape."""
    many = below + above
    kept = [k for k in (below - 1, below) if 0 <= k < many]
    nexts = [(k, k + 1) for k in range(many - 1) if k + 1 != below]
    return tuple(kept), tuple(sorted(nexts + [(y, x) for x, y in nexts]))
