"""What several tests need: odd values, drawn webs, and a plain model of who finds whom."""

from itertools import combinations, product

from stillfound.errors import NoWeb


def nested(depth, around):
    """A thing nested so deep: around tells for a thing the list, tuple or dict with it."""
    thing = around(0)
    for _ in range(depth - 1):
        thing = around(thing)
    return thing


def odd_things():
    """Values that are no web, no standing, no row, no deed and no integer from 0 on."""
    return [
        None, True, False, -1, -(10 ** 999), "", "a", "0", "((),)", "\n\t", [], {}, [()], [[]],
        {"a": 1}, {0: ()}, {(): ()}, (None,), (True,), ([],), ({},), ("",), (0,), ((), None),
        ((), []), ((), {}), (((),), []), ([()], ()), NoWeb(),
        nested(30, lambda thing: [thing]),
        nested(30, lambda thing: (thing,)),
        nested(30, lambda thing: {"a": thing}),
        nested(30, lambda thing: (thing, ())),
        nested(30, lambda thing: ((), thing)),
        [0] * 90000,
    ]


def subsets(row):
    """All ascending tuples of items of a row."""
    return [lot for size in range(len(row) + 1) for lot in combinations(sorted(row), size)]


def all_webs(many):
    """All webs of so many people."""
    return list(product(*[subsets([w for w in range(many) if w != u]) for u in range(many)]))


def drawn_web(draw, many, chance):
    """A web of so many people with each card at a chance."""
    return tuple(
        tuple(w for w in range(many) if w != u and draw.random() < chance) for u in range(many)
    )


def drawn_standing(draw, many):
    """A standing of so many people."""
    chance = draw.choice([0.1, 0.3, 0.5])
    letters = [
        (v, w) for v in range(many) for w in range(many) if v != w and draw.random() < 0.15
    ]
    return (drawn_web(draw, many, chance), tuple(letters))


def model_found(many, links):
    """For each person whom they find by these pairs, by squaring the table."""
    table = [[u == w or (u, w) in links for w in range(many)] for u in range(many)]
    for _ in range(many):
        table = [
            [any(table[u][v] and table[v][w] for v in range(many)) for w in range(many)]
            for u in range(many)
        ]
    return tuple(tuple(w for w in range(many) if table[u][w]) for u in range(many))


def links_of(web):
    """The set of all pairs (u, w) of a card, w's at u."""
    return {(u, w) for u, pocket in enumerate(web) for w in pocket}


class Model:
    """A standing as two sets of pairs: a second way to do deeds."""

    def __init__(self, standing):
        web, letters = standing
        self.many = len(web)
        self.cards = links_of(web)
        self.letters = set(letters)

    def lets(self, deed):
        """Whether a deed, or a turn, can be done now."""
        if deed[0] == "show":
            _, u, v, w = deed
            return (u, v) in self.cards and (u == w or (u, w) in self.cards)
        if deed[0] == "give":
            _, u, v, w = deed
            return (u, v) in self.cards and (u, w) in self.cards
        return deed[1:] in (self.cards if deed[0] == "turn" else self.letters)

    def does(self, deed):
        """Do a deed that can be done."""
        word, *people = deed
        if word in ("show", "give"):
            self.letters.add((people[1], people[2]))
        if word == "give":
            self.cards.discard((people[0], people[2]))
        if word == "turn":
            self.cards.discard((people[0], people[1]))
            self.letters.add((people[1], people[0]))
        if word == "come":
            self.letters.discard((people[0], people[1]))
            self.cards.add((people[0], people[1]))

    def standing(self):
        """The standing now."""
        web = tuple(
            tuple(w for w in range(self.many) if (u, w) in self.cards) for u in range(self.many)
        )
        return (web, tuple(sorted(self.letters)))


def right_deeds(people):
    """All deeds of a row with people of this lot."""
    pairs = [(u, w) for u in people for w in people if u != w]
    deeds = [(word, u, w) for word in ("turn", "come") for u, w in pairs]
    deeds += [("show", u, v, w) for u, v in pairs for w in people if w != v]
    deeds += [("give", u, v, w) for u, v in pairs for w in people if w not in (u, v)]
    return deeds
