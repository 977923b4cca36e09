"""What several tests need: odd values, drawn webs, and a plain model of who finds whom."""

from itertools import combinations, product

from stillfound.errors import NoWeb


def nested(depth, around):
    """A thing nested so deep: around tells for a thing the list, tuple or dict with it."""
    thing = around(0)
    for _ in range(depth - 1):
        thing = around(thing)
    return thing


def odd_things():
    """Values that are no web, no standing, no row, no deed and no integer from 0 on."""
    return [
        None, True, False, -1, -(10 ** 999), "", "a", "0", "((),)", "\n\t", [], {}, [()], [[]],
        {"a": 1}, {0: ()}, {(): ()}, (None,), (True,), ([],), ({},), ("",), (0,), ((), None),
        ((), []), ((), {}), (((),), []), ([()], ()), NoWeb(),
        nested(30, lambda thing: [thing]),
        nested(30, lambda thing: (thing,)),
        nested(30, lambda thing: {"a": thing}),
        nested(30, lambda thing: (thing, ())),
        nested(30, lambda thing: ((), thing)),
        [0] * 90000,
    ]


def subsets(row):
    """All ascending tuples of items of a row."""
    return [lot for size in range(len(row) + 1) for lot in combinations(sorted(row), size)]


def all_webs(many):
    """All webs of so many people."""
    return list(product(*[subsets([w for w in range(many) if w != u]) for u in range(many)]))


def drawn_web(draw, many, chance):
    """A web of so many people with each card at a chance."""
    return tuple(
        tuple(w for w in range(many) if w != u and draw.random() < chance) for u in range(many)
    )


def drawn_standing(draw, many):
    """A standing of so many people."""
    chance = draw.choice([0.1, 0.3, 0.5])
    letters = [
        (v, w) for v in range(many) for w in range(many) if v != w and draw.random() < 0.15
    ]
    return (drawn_web(draw, many, chance), tuple(letters))


def model_found(many, links):
    """For each person whom they find by these pairs, by squaring the table."""
    table = [[u == w or (u, w) in links for w in range(many)] for u in range(many)]
    for _ in range(many):
        table = [
            [any(table[u][v] and table[v][w] for v in range(many)) for w in range(many)]
            for u in range(many)
        ]
    return tuple(tuple(w for w in range(many) if table[u][w]) for u in range(many))


def links_of(web):
    """The set of all pairs (u, w) of a card, w's at u."""
    return {(u, w) for u, pocket in enumerate(web) for w in pocket}


class Model:
    """A standing as two sets of pairs: a second way to do deeds."""

    def __init__(self, standing):
        web, letters = standing
        self.many = len(web)
        self.cards = links_of(web)
        self.letters = set(letters)

    def lets(self, deed):
        """Whether a deed, or a turn, can be done now."""
        if deed[0] == "show":
            _, u, v, w = deed
            return (u, v) in self.cards and (u == w or (u, w) in self.cards)
        if deed[0] == "give":
            _, u, v, w = deed
            return (u, v) in self.cards and (u, w) in self.cards
        return deed[1:] in (self.cards if deed[0] == "turn" else self.letters)

    def does(self, deed):
        """Do a deed that can be done."""
        word, *people = deed
        if word in ("show", "give"):
            self.letters.add((people[1], people[2]))
        if word == "give":
            self.cards.discard((people[0], people[2]))
        if word == "turn":
            self.cards.discard((people[0], people[1]))
            self.letters.add((people[1], people[0]))
        if word == "come":
            self.letters.discard((people[0], people[1]))
            self.cards.add((people[0], people[1]))

    def standing(self):
        """The standing now."""
        web = tuple(
            tuple(w for w in range(self.many) if (u, w) in self.cards) for u in range(self.many)
        )
        return (web, tuple(sorted(self.letters)))


def right_deeds(people):
    """All deeds of a row with people of this lot."""
    pairs = [(u, w) for u in people for w in people if u != w]
    deeds = [(word, u, w) for word in ("turn", "come") for u, w in pairs]
    deeds += [("show", u, v, w) for u, v in pairs for w in people if w != v]
    deeds += [("give", u, v, w) for u, v in pairs for w in people if w not in (u, v)]
    return deeds


def crowd(many):
    """The web in which everybody holds all cards."""
    return tuple(tuple(w for w in range(many) if w != u) for u in range(many))


def web_of(many, links):
    """The web with just these pairs of a person and a card of theirs."""
    return tuple(tuple(w for w in range(many) if (u, w) in links) for u in range(many))


def model_lots(many, links):
    """The classes of people who find each other by links, as the points tell lots."""
    found = model_found(many, links)
    lots = {
        tuple(w for w in range(many) if w in found[u] and u in found[w]) for u in range(many)
    }
    return tuple(sorted(lots))


def model_pieces(web):
    """The pieces of a web: the lots of people whom links join that lead both ways."""
    links = links_of(web)
    return model_lots(len(web), links | {(w, u) for u, w in links})


def model_led(web, turning, let=None):
    """For each web without letters to which rows of deeds lead the fewest deeds: through all standings.

    A standing is here an integer: a bit for each card, and for each letter one more. With let, only
    letters of these pairs are sent.
    """
    many = len(web)
    pairs = [(u, w) for u in range(many) for w in range(many) if u != w]
    bit = {("card", pair): 1 << k for k, pair in enumerate(pairs)}
    bit.update({("way", pair): 1 << len(pairs) + k for k, pair in enumerate(pairs)})
    steps = []
    for word, *people in right_deeds(range(many)):
        if word == "come":
            letter = bit["way", tuple(people)]
            steps.append((letter, letter, bit["card", tuple(people)]))
        if word == "turn" and turning:
            card = bit["card", tuple(people)]
            steps.append((card, card, bit["way", (people[1], people[0])]))
        if word in ("show", "give"):
            u, v, w = people
            card = bit["card", (u, w)] if u != w else 0
            if let is None or (v, w) in let:
                loses = card if word == "give" else 0
                steps.append((bit["card", (u, v)] | card, loses, bit["way", (v, w)]))
    far = {sum(bit["card", pair] for pair in links_of(web)): 0}
    row = list(far)
    for standing in row:
        for needs, loses, gains in steps:
            if standing & needs == needs:
                then = (standing & ~loses) | gains
                if then not in far:
                    far[then] = far[standing] + 1
                    row.append(then)
    return {
        web_of(many, [pair for pair in pairs if standing & bit["card", pair]]): fewest
        for standing, fewest in far.items() if standing < 1 << len(pairs)
    }


def model_full(web, wish):
    """What full tells: shows are done, any that may be, until none brings a new card."""
    many = len(web)
    let = model_found(many, links_of(wish))
    links = links_of(web)
    if any(w not in let[u] for u, row in enumerate(model_found(many, links)) for w in row):
        return None
    while True:
        new = {
            (v, w) for u, v in links for w in range(many)
            if (w == u or (u, w) in links) and w != v and w in let[v]
        }
        if new <= links:
            return web_of(many, links)
        links = links | new


def model_lack(web, wish):
    """What lack tells."""
    many = len(web)
    found, let = model_found(many, links_of(web)), model_found(many, links_of(wish))
    lost = [(u, w) for u in range(many) for w in found[u] if w not in let[u]]
    if lost:
        return ("found", *min(lost))
    missing = links_of(wish) - links_of(model_full(web, wish))
    return ("card", *min(missing)) if missing else None


def shapes(most):
    """All shapes of together 1 to so many cards."""
    return [
        (below, total - below) for total in range(1, most + 1) for below in range(total + 1)
    ]


def drawn_pair(draw, many, keeps):
    """Something right to keep and send of so many cards, each card kept at a chance."""
    kept = tuple(k for k in range(many) if draw.random() < keeps)
    sent = [
        (to, what) for to in range(many) for what in range(-1, many)
        if to != what and draw.random() < 0.4
    ]
    return (kept, tuple(sorted(sent)))


def drawn_rows(draw, most, keeps, chance):
    """Right rows of a rule: each shape at a chance, each card kept at a chance."""
    return {
        shape: drawn_pair(draw, sum(shape), keeps) for shape in shapes(most) if draw.random() < chance
    }


def model_act(standing, u, rows):
    """The standing behind an act by these rows, as the point tells it."""
    web, letters = standing
    lesser = [w for w in web[u] if w < u]
    greater = [w for w in web[u] if w > u]
    row = rows.get((len(lesser), len(greater)))
    if row is None:
        return standing
    people = {at: w for at, w in enumerate(lesser + greater)}
    people[-1] = u
    cards = {(x, w) for x, w in links_of(web) if x != u}
    cards |= {(u, people[at]) for at in row[0]}
    on_the_way = set(letters) | {(people[to], people[what]) for to, what in row[1]}
    return (web_of(len(web), cards), tuple(sorted(on_the_way)))


def ring(many):
    """The web in which everybody holds the next one's card, the last one the first one's."""
    return tuple(((u + 1) % many,) for u in range(many))


def line(many):
    """The web in which everybody but the last one holds the next one's card."""
    return tuple((u + 1,) if u + 1 < many else () for u in range(many))


def bare(many):
    """The web without cards."""
    return ((),) * many


def wrong_webs():
    """What is no web, though it looks like one."""
    return [
        (),
        bare(10), line(10), ring(10), ((),) * 100,
        ((0,),), ((0, 1), ()), ((), (0, 1)), ((), (1,)), ((1,), (0,), (0, 1, 2)),
        ((1,),), ((2,), ()), ((), (2,)), ((9,),) + bare(8), ((10 ** 999,), ()), ((1, 2), ()),
        ((-1,), ()), ((), (-1, 0)), ((-(10 ** 999),), ()), ((-1, 1), ()),
        ((1, 1), ()), ((1, 1, 2), (), ()), ((1, 2, 2), (), ()), ((), (), (0, 0)),
        ((2, 1), (), ()), ((), (2, 0), ()), ((1, 3, 2), (), (), ()), ((2, 1, 3), (), (), ()),
        ((True,), ()), ((), (False,)), ((True, 2), (), ()), ((), (False, 2), ()),
        [(1,), (0,)], ([1], (0,)), ((1,), [0]), ((1,), []), [[], []], ({}, ()), ((), {}),
        ({1: 1}, ()), ("", ""), ("1", ()), (("1",), ()), ((None,), ()), (None, ()), ((), None),
        (((),), ()), (((1,),), ()), (([1],), ()), ((1, None), ()), ((1, "2"), (), ()), (1, 0),
        (True, False), (0,), 5, "web", (((1,), ()), ()), {0: (1,), 1: ()},
        ((1, [2]), (), ()), ((1, (2,)), (), ()), ((nested(28, lambda x: (x,)),), ()),
        (nested(29, lambda x: [x]), ()), (tuple(range(1, 90000)), ()), ((1,) * 90000, ()),
        ((NoWeb(),), ()), (NoWeb(), ()),
    ]
