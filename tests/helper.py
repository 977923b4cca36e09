"""What several tests need: odd values, drawn webs, and a plain model of who finds whom."""

from itertools import combinations, product

from stillfound.deeds import found
from stillfound.errors import NoRules, NoWeb
from stillfound.rules import Rule, levelling


def nested(depth, around):
    """A thing nested so deep: around tells for a thing the list, tuple or dict with it."""
    thing = around(0)
    for _ in range(depth - 1):
        thing = around(thing)
    return thing


def odd_things():
    """Values that are no web, no standing, no row, no deed and no integer from 0 on."""
    return [
        None, True, False, -1, -(10 ** 999), "", "a", "0", "((),)", "\n\t", [], {}, [()], [[]],
        {"a": 1}, {0: ()}, {(): ()}, (None,), (True,), ([],), ({},), ("",), (0,), ((), None),
        ((), []), ((), {}), (((),), []), ([()], ()), NoWeb(),
        nested(30, lambda thing: [thing]),
        nested(30, lambda thing: (thing,)),
        nested(30, lambda thing: {"a": thing}),
        nested(30, lambda thing: (thing, ())),
        nested(30, lambda thing: ((), thing)),
        [0] * 90000,
    ]


def subsets(row):
    """All ascending tuples of items of a row."""
    return [lot for size in range(len(row) + 1) for lot in combinations(sorted(row), size)]


def all_webs(many):
    """All webs of so many people."""
    return list(product(*[subsets([w for w in range(many) if w != u]) for u in range(many)]))


def drawn_web(draw, many, chance):
    """A web of so many people with each card at a chance."""
    return tuple(
        tuple(w for w in range(many) if w != u and draw.random() < chance) for u in range(many)
    )


def drawn_standing(draw, many):
    """A standing of so many people."""
    chance = draw.choice([0.1, 0.3, 0.5])
    letters = [
        (v, w) for v in range(many) for w in range(many) if v != w and draw.random() < 0.15
    ]
    return (drawn_web(draw, many, chance), tuple(letters))


def model_found(many, links):
    """For each person whom they find by these pairs, by squaring the table."""
    table = [[u == w or (u, w) in links for w in range(many)] for u in range(many)]
    for _ in range(many):
        table = [
            [any(table[u][v] and table[v][w] for v in range(many)) for w in range(many)]
            for u in range(many)
        ]
    return tuple(tuple(w for w in range(many) if table[u][w]) for u in range(many))


def links_of(web):
    """The set of all pairs (u, w) of a card, w's at u."""
    return {(u, w) for u, pocket in enumerate(web) for w in pocket}


class Model:
    """A standing as two sets of pairs: a second way to do deeds."""

    def __init__(self, standing):
        web, letters = standing
        self.many = len(web)
        self.cards = links_of(web)
        self.letters = set(letters)

    def lets(self, deed):
        """Whether a deed, or a turn, can be done now."""
        if deed[0] == "show":
            _, u, v, w = deed
            return (u, v) in self.cards and (u == w or (u, w) in self.cards)
        if deed[0] == "give":
            _, u, v, w = deed
            return (u, v) in self.cards and (u, w) in self.cards
        return deed[1:] in (self.cards if deed[0] == "turn" else self.letters)

    def does(self, deed):
        """Do a deed that can be done."""
        word, *people = deed
        if word in ("show", "give"):
            self.letters.add((people[1], people[2]))
        if word == "give":
            self.cards.discard((people[0], people[2]))
        if word == "turn":
            self.cards.discard((people[0], people[1]))
            self.letters.add((people[1], people[0]))
        if word == "come":
            self.letters.discard((people[0], people[1]))
            self.cards.add((people[0], people[1]))

    def standing(self):
        """The standing now."""
        web = tuple(
            tuple(w for w in range(self.many) if (u, w) in self.cards) for u in range(self.many)
        )
        return (web, tuple(sorted(self.letters)))


def right_deeds(people):
    """All deeds of a row with people of this lot."""
    pairs = [(u, w) for u in people for w in people if u != w]
    deeds = [(word, u, w) for word in ("turn", "come") for u, w in pairs]
    deeds += [("show", u, v, w) for u, v in pairs for w in people if w != v]
    deeds += [("give", u, v, w) for u, v in pairs for w in people if w not in (u, v)]
    return deeds


def crowd(many):
    """The web in which everybody holds all cards."""
    return tuple(tuple(w for w in range(many) if w != u) for u in range(many))


def web_of(many, links):
    """The web with just these pairs of a person and a card of theirs."""
    return tuple(tuple(w for w in range(many) if (u, w) in links) for u in range(many))


def model_lots(many, links):
    """The classes of people who find each other by links, as the points tell lots."""
    found = model_found(many, links)
    lots = {
        tuple(w for w in range(many) if w in found[u] and u in found[w]) for u in range(many)
    }
    return tuple(sorted(lots))


def model_pieces(web):
    """The pieces of a web: the lots of people whom links join that lead both ways."""
    links = links_of(web)
    return model_lots(len(web), links | {(w, u) for u, w in links})


def model_led(web, turning, let=None):
    """For each web without letters to which rows of deeds lead the fewest deeds: through all standings.

    A standing is here an integer: a bit for each card, and for each letter one more. With let, only
    letters of these pairs are sent.
    """
    many = len(web)
    pairs = [(u, w) for u in range(many) for w in range(many) if u != w]
    bit = {("card", pair): 1 << k for k, pair in enumerate(pairs)}
    bit.update({("way", pair): 1 << len(pairs) + k for k, pair in enumerate(pairs)})
    steps = []
    for word, *people in right_deeds(range(many)):
        if word == "come":
            letter = bit["way", tuple(people)]
            steps.append((letter, letter, bit["card", tuple(people)]))
        if word == "turn" and turning:
            card = bit["card", tuple(people)]
            steps.append((card, card, bit["way", (people[1], people[0])]))
        if word in ("show", "give"):
            u, v, w = people
            card = bit["card", (u, w)] if u != w else 0
            if let is None or (v, w) in let:
                loses = card if word == "give" else 0
                steps.append((bit["card", (u, v)] | card, loses, bit["way", (v, w)]))
    far = {sum(bit["card", pair] for pair in links_of(web)): 0}
    row = list(far)
    for standing in row:
        for needs, loses, gains in steps:
            if standing & needs == needs:
                then = (standing & ~loses) | gains
                if then not in far:
                    far[then] = far[standing] + 1
                    row.append(then)
    return {
        web_of(many, [pair for pair in pairs if standing & bit["card", pair]]): fewest
        for standing, fewest in far.items() if standing < 1 << len(pairs)
    }


def model_full(web, wish):
    """What full tells: shows are done, any that may be, until none brings a new card."""
    many = len(web)
    let = model_found(many, links_of(wish))
    links = links_of(web)
    if any(w not in let[u] for u, row in enumerate(model_found(many, links)) for w in row):
        return None
    while True:
        new = {
            (v, w) for u, v in links for w in range(many)
            if (w == u or (u, w) in links) and w != v and w in let[v]
        }
        if new <= links:
            return web_of(many, links)
        links = links | new


def model_lack(web, wish):
    """What lack tells."""
    many = len(web)
    found, let = model_found(many, links_of(web)), model_found(many, links_of(wish))
    lost = [(u, w) for u in range(many) for w in found[u] if w not in let[u]]
    if lost:
        return ("found", *min(lost))
    missing = links_of(wish) - links_of(model_full(web, wish))
    return ("card", *min(missing)) if missing else None


def shapes(most):
    """All shapes of together 1 to so many cards."""
    return [
        (below, total - below) for total in range(1, most + 1) for below in range(total + 1)
    ]


def drawn_pair(draw, many, keeps):
    """Something right to keep and send of so many cards, each card kept at a chance."""
    kept = tuple(k for k in range(many) if draw.random() < keeps)
    sent = [
        (to, what) for to in range(many) for what in range(-1, many)
        if to != what and draw.random() < 0.4
    ]
    return (kept, tuple(sorted(sent)))


def drawn_rows(draw, most, keeps, chance):
    """Right rows of a rule: each shape at a chance, each card kept at a chance."""
    return {
        shape: drawn_pair(draw, sum(shape), keeps) for shape in shapes(most) if draw.random() < chance
    }


def model_act(standing, u, rows):
    """The standing behind an act by these rows, as the point tells it."""
    web, letters = standing
    lesser = [w for w in web[u] if w < u]
    greater = [w for w in web[u] if w > u]
    row = rows.get((len(lesser), len(greater)))
    if row is None:
        return standing
    people = {at: w for at, w in enumerate(lesser + greater)}
    people[-1] = u
    cards = {(x, w) for x, w in links_of(web) if x != u}
    cards |= {(u, people[at]) for at in row[0]}
    on_the_way = set(letters) | {(people[to], people[what]) for to, what in row[1]}
    return (web_of(len(web), cards), tuple(sorted(on_the_way)))


def ring(many):
    """The web in which everybody holds the next one's card, the last one the first one's."""
    return tuple(((u + 1) % many,) for u in range(many))


def line(many):
    """The web in which everybody but the last one holds the next one's card."""
    return tuple((u + 1,) if u + 1 < many else () for u in range(many))


def bare(many):
    """The web without cards."""
    return ((),) * many


def wrong_webs():
    """What is no web, though it looks like one."""
    return [
        (),
        bare(10), line(10), ring(10), ((),) * 100,
        ((0,),), ((0, 1), ()), ((), (0, 1)), ((), (1,)), ((1,), (0,), (0, 1, 2)),
        ((1,),), ((2,), ()), ((), (2,)), ((9,),) + bare(8), ((10 ** 999,), ()), ((1, 2), ()),
        ((-1,), ()), ((), (-1, 0)), ((-(10 ** 999),), ()), ((-1, 1), ()),
        ((1, 1), ()), ((1, 1, 2), (), ()), ((1, 2, 2), (), ()), ((), (), (0, 0)),
        ((2, 1), (), ()), ((), (2, 0), ()), ((1, 3, 2), (), (), ()), ((2, 1, 3), (), (), ()),
        ((True,), ()), ((), (False,)), ((True, 2), (), ()), ((), (False, 2), ()),
        [(1,), (0,)], ([1], (0,)), ((1,), [0]), ((1,), []), [[], []], ({}, ()), ((), {}),
        ({1: 1}, ()), ("", ""), ("1", ()), (("1",), ()), ((None,), ()), (None, ()), ((), None),
        (((),), ()), (((1,),), ()), (([1],), ()), ((1, None), ()), ((1, "2"), (), ()), (1, 0),
        (True, False), (0,), 5, "web", (((1,), ()), ()), {0: (1,), 1: ()},
        ((1, [2]), (), ()), ((1, (2,)), (), ()), ((nested(28, lambda x: (x,)),), ()),
        (nested(29, lambda x: [x]), ()), (tuple(range(1, 90000)), ()), ((1,) * 90000, ()),
        ((NoWeb(),), ()), (NoWeb(), ()),
    ]


ODD_PEOPLE = [
    -1, 10 ** 999, -(10 ** 999), True, False, None, "0", "", (), (0,), [], [0], {}, {0: 0}, NoWeb(),
    nested(30, lambda x: [x]),
]

# Whoever holds one card tells that person the own one; two greater ones are told of one another.
TELLS = Rule(2, {(0, 1): ((0,), ((0, -1),)), (1, 0): ((0,), ((0, -1),)), (0, 2): ((0,), ((0, 1),))})


def told(town):
    """All that a town tells."""
    return town.web(), town.letters(), town.found(), town.rests(), town.log()


def all_told(post):
    """All that a post tells."""
    return *told(post), post.notes(), post.delivered()


def wrong_rules(many):
    """What is no tuple of rules for so many people."""
    rule = levelling(2)
    return [
        [None] * many, (None,) * (many + 1), (None,) * (many - 1), (rule,) * (many + 1), [rule] * many,
        None, (), rule, (*(None,) * (many - 1), 0), (*(rule,) * (many - 1), True),
        (False, *(None,) * (many - 1)), ("", *(None,) * (many - 1)), (*(None,) * (many - 1), rule.table()),
        (*(None,) * (many - 1), ()), ((), *(None,) * (many - 1)), (NoRules(), *(rule,) * (many - 1)), {}, "", 5,
        ((None,) * many,) if many > 1 else ((None,),), (*(None,) * (many - 1), [rule]), {k: None for k in range(many)},
        (*(None,) * (many - 1), nested(28, lambda x: [x])), (None,) * 90000, nested(30, lambda x: (x,)),
    ]


class ModelTown:
    """A town by the words of the point, by a second way of acts and deeds."""

    def __init__(self, web, rows):
        self.standing = (web, ())
        self.rows = rows
        self.past = []

    def behind(self, u):
        """The standing behind an act of u."""
        return self.standing if self.rows[u] is None else model_act(self.standing, u, self.rows[u])

    def keep(self, item, standing, rows=None):
        """Put down an item and go on to a standing."""
        self.past.append((item, self.standing, self.rows))
        self.standing = standing
        self.rows = self.rows if rows is None else rows

    def act(self, u):
        """As town.act."""
        changed = self.behind(u) != self.standing
        if changed:
            self.keep(("act", u), self.behind(u))
        return changed

    def does(self, deed):
        """As town.come and town.deed; returns whether the deed can be done."""
        model = Model(self.standing)
        if not model.lets(deed):
            return False
        model.does(deed)
        self.keep(deed, model.standing())
        return True

    def enter(self, friend, rows):
        """As town.enter, where there is room."""
        web, letters = self.standing
        self.keep(("enter", friend), ((*web, (friend,)), letters), [*self.rows, rows])

    def rests(self):
        """As town.rests."""
        return not self.standing[1] and not any(
            self.behind(u) != self.standing for u in range(len(self.rows))
        )

    def settle(self, most):
        """As town.settle."""
        many = 0
        while many < most and not self.rests():
            if self.standing[1]:
                self.does(("come", *min(self.standing[1])))
            else:
                self.act(min(u for u in range(len(self.rows)) if self.behind(u) != self.standing))
            many += 1
        return many

    def back(self):
        """As town.back, where there is something."""
        _, self.standing, self.rows = self.past.pop()

    def copy(self):
        """As town.copy."""
        other = ModelTown(self.standing[0], self.rows)
        other.standing, other.past = self.standing, list(self.past)
        return other

    def told(self):
        """All that the town tells."""
        log = [item for item, *_ in self.past]
        return *self.standing, found(self.standing), self.rests(), log


def rules_of(rows):
    """The rules with these rows, one for each person, or None."""
    return tuple(None if lot is None else Rule(8, lot) for lot in rows)


def model_next(web, u, t):
    """To whom a note with u for t goes on: of those on the way the nearest to t; None if there is none."""
    nearer = [w for w in web[u] if min(u, t) <= w <= max(u, t)]
    return min(nearer, key=lambda w: abs(w - t)) if nearer else None


def model_moves(state, rows):
    """All moves of a standing and notes, as the points tell them, each with what is behind it."""
    standing, notes = state
    told = []
    for u, lot in enumerate(rows):
        then = standing if lot is None else model_act(standing, u, lot)
        if then != standing:
            told.append((("act", u), (then, notes)))
    for letter in standing[1]:
        model = Model(standing)
        model.does(("come", *letter))
        told.append((("come", *letter), (model.standing(), notes)))
    for number, (place, u, t) in enumerate(notes):
        w = u if place == "way" else model_next(standing[0], u, t)
        if w is not None:
            move, note = (("land", number), ("with", u, t)) if place == "way" else (("carry", number), ("way", w, t))
            told.append((move, (standing, notes[:number] + (note,) + notes[number + 1:])))
    return told


def model_start(web, notes=()):
    """The state of a web without letters and with notes from and for these."""
    return ((web, ()), tuple(("with", u, t) for u, t in notes))


def model_runs(web, rows, notes=(), most=None):
    """For each state of all runs its moves, or None if there are more states than the most."""
    start = model_start(web, notes)
    told = {}
    open_states = [start]
    while open_states:
        state = open_states.pop()
        if state not in told:
            told[state] = model_moves(state, rows)
            open_states += [behind for _, behind in told[state]]
        if most is not None and len(told) > most:
            return None
    return told


def model_lasts(told):
    """Whether one of these runs goes on for ever: whether states are left of which each leads to one that is left."""
    left = set(told)
    while True:
        still = {state for state in left if any(behind in left for _, behind in told[state])}
        if still == left:
            return bool(left)
        left = still


def model_walk(state, rows, thing):
    """Where a thing leads if it is a tuple of moves that can be made in turn, or None."""
    if type(thing) is not tuple:
        return None
    for move in thing:
        # A flag shows itself by how it is written.
        fits = [behind for other, behind in model_moves(state, rows) if repr(other) == repr(move)]
        if not fits:
            return None
        state = fits[0]
    return state


def bent_moves(draw, moves, many):
    """What stands near a tuple of moves: moves changed, left out, put in, exchanged, and other kinds of things."""
    others = [("act", draw.randrange(many)), ("act", many), ("act", -1), ("act", True), ("act", 0, 0), ("act",), ()]
    others += [("come", draw.randrange(many), draw.randrange(many)), ("come", 0), ("come", 0, many), ("come", 1, True)]
    others += [("carry", 0), ("land", 0), ("carry", 1), ("land", -1), ("carry", False), ["act", 0], "act 0", None, 0]
    others += [("show", 0, 1, 0), ("enter", 0), ("send", 0, 1), (0, "act"), ("Act", 0), ("act", "0"), ("act", [0]), []]
    told = [list(moves), list(map(list, moves)), None, True, 0, "", {}, NoWeb(), (moves,), dict(enumerate(moves))]
    for other in others:
        at = draw.randint(0, len(moves))
        told.append((*moves[:at], other, *moves[at:]))
        told.append((*moves[:at], other, *moves[at + 1:]))
    for at, (word, *numbers) in enumerate(moves):
        told.append(moves[:at] + moves[at + 1:])
        told.append((*moves[:at], moves[at], *moves[at:]))
        told.append((*moves[:at], (word, *[bool(k) for k in numbers]), *moves[at + 1:]))
        told.append((*moves[:at], [word, *numbers], *moves[at + 1:]))
        told.append((*moves[:at], (word, *numbers[::-1]), *moves[at + 1:]))
        told.append(moves[:at] + moves[at:][::-1])
    return told


def beside(*towns):
    """The web and the rows of several towns beside one another, none knowing of the other ones."""
    webs, rows = [], []
    for web, lot in towns:
        webs += [tuple(w + len(rows) for w in pocket) for pocket in web]
        rows += lot
    return tuple(webs), rows


# A town of three with runs through just 500 standings, and a pair with ten: beside one another 5000.
HALF_THOUSAND = (
    ((1, 2), (), (1,)),
    [{(0, 2): ((1,), ((1, -1), (1, 0)))}, {}, {(1, 0): ((0,), ((0, -1),)), (2, 0): ((0,), ((0, 1), (1, 0)))}],
)
TEN = (((1,), ()), [{(0, 1): ((), ((0, -1),))}, {(1, 0): ((0,), ((0, -1),))}])
TWO = (((1,), ()), [{(0, 1): ((), ())}, None])
ONE_TOO_MANY = (
    ((1, 3), (2,), (0,), (1, 2)),
    [
        {(0, 2): ((0,), ((1, -1), (1, 0)))},
        {(0, 1): ((), ()), (0, 2): ((0, 1), ((1, 0),))},
        {(0, 1): ((0,), ((0, -1),)), (1, 1): ((1,), ((0, 1),)), (2, 0): ((), ((1, -1),))},
        {(2, 0): ((0, 1), ((0, -1), (0, 1), (1, -1), (1, 0)))},
    ],
)
