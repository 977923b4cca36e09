"""Promise 16: all runs with notes, and of 2, 3 and 4 what holds for them."""

import random
import unittest
from itertools import product

from stillfound.allposts import farthest, fewest_far, hops, is_straight, is_strand, strand
from stillfound.errors import NoNotes, NoNumber, NoPerson, NoRules, NoWeb, TooMany
from stillfound.post import Post
from stillfound.rules import levelling
from tests.helper import (
    HALF_THOUSAND, ODD_PEOPLE, ONE_TOO_MANY, TELLS, TWO, all_webs, bare, bent_moves, beside, crowd, drawn_rows,
    drawn_web, line, links_of, model_moves, model_next, model_pieces, model_runs, model_start, model_walk, nested,
    odd_things, ring, rules_of, subsets, web_of, wrong_rules, wrong_webs,
)


def neighbours(many):
    """The pairs of everybody with both neighbours."""
    return {(u, w) for u in range(many) for w in (u - 1, u + 1) if 0 <= w < many}


def is_at_end(state, rows, number):
    """Whether no move can be made in a state, and the note with a number isn't delivered."""
    _, _, t = state[1][number]
    return model_moves(state, rows) == [] and state[1][number] != ("with", t, t)


def judged_strand(web, rows, notes, thing):
    """What is_strand should tell, by the second model."""
    if type(thing) is not tuple or len(thing) != 2:
        return False
    moves, number = thing
    if type(number) is not int or not 0 <= number < len(notes):
        return False
    state = model_walk(model_start(web, notes), rows, moves)
    return state is not None and is_at_end(state, rows, number)


def model_hops(web, u, t):
    """What hops should tell."""
    many = 0
    while u is not None and u != t:
        u = model_next(web, u, t)
        many += 1
    return None if u is None else many


def model_farthest(web):
    """What farthest should tell."""
    told = [model_hops(web, u, t) for u, t in product(range(len(web)), repeat=2)]
    return None if None in told else max(told)


def drawn_posts(seed, many):
    """Drawn small towns with none to three notes, of no more states than may be."""
    draw = random.Random(seed)
    while many:
        people = draw.choice([1, 2, 2, 3, 3, 3])
        lots = [drawn_rows(draw, 2, draw.choice([0.3, 0.6, 0.9]), draw.choice([0.3, 0.8])) for _ in range(people)]
        lots = [draw.choice([None, levelling(2).table(), lot, lot]) for lot in lots]
        web = drawn_web(draw, people, draw.choice([0.4, 0.7]))
        notes = tuple((draw.randrange(people), draw.randrange(people)) for _ in range(draw.randint(0, 3)))
        runs = model_runs(web, lots, notes, 2000)
        if runs is not None and (len(runs) > 3 or draw.random() < 0.3):
            many -= 1
            yield web, lots, notes, runs


class StrandCase(unittest.TestCase):
    def check_pair(self, web, rows, notes, pair):
        """A told pair is one: led in a Post move by move."""
        moves, number = pair
        self.assertEqual([type(pair), type(moves), type(number)], [tuple, tuple, int])
        post = Post(web, rules_of(rows))
        for u, t in notes:
            post.send(u, t)
        for word, *numbers in moves:
            self.assertIn(word, ("act", "come", "carry", "land"))
            told = getattr(post, word)(*numbers)
            self.assertIs(told, True if word in ("act", "carry") else None)
        self.assertIs(post.rests(), True)
        self.assertNotIn(number, post.delivered())
        self.assertLess(number, len(notes))
        self.assertIs(is_strand(web, rules_of(rows), notes, pair), True)


class DrawnTest(StrandCase):
    def test_against_all_standings_with_notes(self):
        kinds = {}
        for web, rows, notes, runs in drawn_posts(70, 900):
            stranded = any(is_at_end(state, rows, number) for state in runs for number in range(len(notes)))
            with self.subTest(web=web, rows=rows, notes=notes):
                pair = strand(web, rules_of(rows), notes)
                self.assertEqual(pair is not None, stranded)
                if stranded:
                    self.check_pair(web, rows, notes, pair)
                self.assertEqual(strand(web, rules_of(rows), notes), pair)
            kind = (stranded, len(notes), stranded and len(pair[0]) > 2)
            kinds[kind] = kinds.get(kind, 0) + 1
        for many in (1, 2, 3):
            for kind in ((False, many, False), (True, many, False), (True, many, True)):
                self.assertGreater(kinds.get(kind, 0), 2, kind)
        self.assertGreater(kinds.get((False, 0, False), 0), 2)

    def test_bent_pairs(self):
        draw = random.Random(71)
        right = wrong = 0
        for web, rows, notes, _ in drawn_posts(72, 120):
            rules = rules_of(rows)
            moves, number = strand(web, rules, notes) or ((("act", 0), ("carry", 0)), 0)
            things = [(bent, number) for bent in bent_moves(draw, moves, len(web))]
            things += [(moves, other) for other in [0, 1, 2, 3, -1, True, False, None, "0", (0,), [0], 10 ** 999]]
            things += [(moves,), (moves, number, number), (number, moves), [moves, number], moves, number, None, ()]
            for thing in things:
                told = judged_strand(web, rows, notes, thing)
                self.assertIs(is_strand(web, rules, notes, thing), told, (web, rows, notes, thing))
                right, wrong = right + told, wrong + (not told)
        self.assertGreater(right, 100)
        self.assertGreater(wrong, 1000)

    def test_nothing_handed_in_is_changed(self):
        for web, rows, notes, _ in drawn_posts(73, 20):
            rules = rules_of(rows)
            tables = [rule and rule.table() for rule in rules]
            thing = (strand(web, rules, notes), [[("act", 0)], {"a": [1]}])
            kept = repr(thing)
            is_strand(web, rules, notes, thing)
            self.assertEqual([rule and rule.table() for rule in rules], tables)
            self.assertEqual(repr(thing), kept)


class KnownTest(StrandCase):
    def test_a_note_that_waits_from_the_start(self):
        for notes, number in ((((1, 0),), 0), (((0, 1), (1, 0)), 1), (((0, 0), (1, 1), (1, 0)), 2)):
            pair = strand(line(2), (None, None), notes)
            self.check_pair(line(2), [None, None], notes, pair)
            self.assertEqual(pair[1], number)
        self.assertIs(is_strand(line(2), (None, None), ((1, 0),), ((), 0)), True)
        self.assertIs(is_strand(line(2), (None, None), ((0, 0), (1, 0)), ((), 0)), False)
        self.assertIs(is_strand(line(2), (None, None), ((0, 1), (1, 0)), ((), 1)), False)

    def test_no_note_is_stranded(self):
        self.assertIsNone(strand(line(3), (None,) * 3, ()))
        self.assertIsNone(strand(line(3), (None,) * 3, ((0, 2), (0, 1), (2, 2))))
        # Who goes on for ever never stands still.
        self.assertIsNone(strand(((1,), ()), (TELLS, None), ((1, 0),)))

    def test_a_note_stranded_in_some_run(self):
        # 0 throws the card of 1 away: a note that has gone on ahead of it comes through.
        web, rows, notes = ((1,), ()), [{(0, 1): ((), ())}, None], ((0, 1),)
        pair = strand(web, rules_of(rows), notes)
        self.assertEqual(pair, ((("act", 0),), 0))
        self.check_pair(web, rows, notes, pair)
        through = (("carry", 0), ("act", 0), ("land", 0))
        self.assertIs(is_strand(web, rules_of(rows), notes, (through, 0)), False)
        self.assertIs(is_strand(web, rules_of(rows), notes, (through[:2], 0)), False)
        self.assertIs(is_strand(web, rules_of(rows), notes, ((), 0)), False)

    def test_without_notes_nothing_is_a_strand(self):
        for thing in (((), 0), ((), -1), ((("act", 0),), 0), None):
            self.assertIs(is_strand(bare(2), (None, None), (), thing), False)

    def test_things_that_are_no_pairs(self):
        web, rules, notes = ((1,), ()), rules_of([{(0, 1): ((), ())}, None]), ((0, 1),)
        for thing in odd_things() + wrong_webs() + wrong_rules(2):
            self.assertIs(is_strand(web, rules, notes, thing), False)
            self.assertIs(is_strand(web, rules, notes, (thing, 0)), False)
            self.assertIs(is_strand(web, rules, notes, ((("act", 0),), thing)), False)
            self.assertIs(is_strand(web, rules, notes, ((("act", 0), thing), 0)), False)
            self.assertIs(is_strand(web, rules, notes, ((("act", thing),), 0)), False)
            self.assertIs(is_strand(web, rules, notes, ((("carry", thing), ("act", 0)), 0)), False)
            self.assertIs(is_strand(web, rules, notes, (((thing, 0),), 0)), False)
        for k in (1, 2, -1, True, False, 10 ** 999):
            self.assertIs(is_strand(web, rules, notes, ((("carry", k), ("act", 0)), 0)), False)
            self.assertIs(is_strand(web, rules, notes, ((("act", k),), 0)), False)
            self.assertIs(is_strand(web, rules, notes, ((("act", 0),), k)), False)


class ManyTest(StrandCase):
    def check_too_many(self, web, rows, notes):
        with self.assertRaises(TooMany) as caught:
            strand(web, rules_of(rows), notes)
        self.assertEqual(caught.exception.most, 5000)

    def test_webs_letters_and_notes_together(self):
        row = (line(3), [None] * 3)
        web, rows = beside(HALF_THOUSAND, row, TWO)
        notes = ((3, 5),)
        runs = model_runs(web, rows, notes)
        self.assertEqual((len(model_runs(web, rows)), len(runs)), (1000, 5000))
        self.assertEqual(strand(web, rules_of(rows), notes), None)
        self.assertEqual(any(is_at_end(state, rows, 0) for state in runs), False)
        # A note that waits, or is where it should be, makes no more of them.
        pair = strand(web, rules_of(rows), ((3, 5), (4, 4), (5, 3)))
        self.assertIsNone(pair)
        self.check_too_many(web, rows, ((3, 5), (3, 4)))
        self.check_too_many(web, rows, ((3, 5), (3, 5), (3, 5)))

    def test_just_as_many_with_a_strand(self):
        web, rows = beside((line(9), [None] * 9))
        notes = ((0, 8), (0, 8), (0, 8))
        self.assertEqual(len(model_runs(web, rows, notes)), 17 ** 3)
        self.assertIsNone(strand(web, rules_of(rows), notes))
        pair = strand(web, rules_of(rows), ((0, 8), (8, 0), (0, 8)))
        self.check_pair(web, rows, ((0, 8), (8, 0), (0, 8)), pair)

    def test_whatever_is_found_ahead(self):
        web, rows = ONE_TOO_MANY
        self.assertEqual(len(model_runs(web, rows)), 5001)
        self.check_too_many(web, rows, ())
        self.check_too_many(web, rows, ((0, 0),))
        web, rows = beside((bare(2), [None] * 2), ONE_TOO_MANY)
        self.check_too_many(web, rows, ((0, 1),))
        # The first one that acts throws a card away, and a note is stranded for ever.
        web, rows = beside(TWO, ONE_TOO_MANY)
        self.check_too_many(web, rows, ((0, 1), (1, 0)))
        self.check_too_many(crowd(9), [levelling(8).table()] * 9, ((0, 8),))

    def test_is_strand_of_a_great_town(self):
        web, rows = beside((bare(2), [None] * 2), (crowd(3), [levelling(2).table()] * 3), TWO, TWO)
        rules = rules_of(rows)
        post = Post(web, rules)
        post.send(0, 1)
        post.send(2, 4)
        post.settle(10000)
        thing = (tuple(post.log()[2:]), 0)
        self.assertIs(is_strand(web, rules, ((0, 1), (2, 4)), thing), True)
        self.assertIs(is_strand(web, rules, ((0, 1), (2, 4)), (thing[0][:-1], 0)), False)
        self.assertIs(is_strand(web, rules, ((0, 1), (2, 4)), (thing[0], 1)), False)


class ErrorsTest(StrandCase):
    def check_both(self, error, web, rules, notes):
        """Of both functions that are handed a post."""
        with self.assertRaises(error):
            strand(web, rules, notes)
        for thing in (((), 0), None):
            with self.assertRaises(error):
                is_strand(web, rules, notes, thing)

    def wrong_notes(self, many):
        """What is no tuple of at most three pairs of so many people."""
        return [
            ((0, 0),) * 4, ((0, 0),) * 90, [(0, 0)], [], None, 0, True, "", {}, {0: 0}, (0, 0), ([0, 0],), ((0,),), ((),),
            ((0, 0, 0),), ((0, many),), ((many, 0),), ((0, 0), (many, many)), ((-1, 0),), ((0, -1),), ((True, 0),),
            ((0, False),), ((0, 0), (0, 0), (0, True)), (("0", 0),), ((0, None),), ("00",), (None,), ((0, 10 ** 999),),
            (((0,), 0),), ((0, (0,)),), ("", ""), ({0: 0, 1: 0},), (NoNotes(), (0, 0)), (nested(28, lambda x: (x, 0)),),
            nested(30, lambda x: (x,)), ((0, 0),) * 30000, ((0,) * 90000,),
        ]

    def test_no_web_no_rules_no_notes(self):
        for thing in wrong_webs() + odd_things():
            for rules, notes in (((None, None), ()), (None, ((0, 0),)), ((), None)):
                self.check_both(NoWeb, thing, rules, notes)
        for many in (1, 2, 9):
            for rules in wrong_rules(many):
                for notes in ((), ((0, 0),), None):
                    self.check_both(NoRules, crowd(many), rules, notes)
            for notes in self.wrong_notes(many):
                self.check_both(NoNotes, bare(many), (levelling(8),) * many, notes)
        for notes in odd_things():
            self.check_both(NoNotes, bare(2), (None, None), notes)

    def test_too_many_comes_last(self):
        web, rules = crowd(9), (levelling(8),) * 9
        self.check_both(NoWeb, (*web[:8], (9,)), rules, ())
        self.check_both(NoRules, web, rules[:8], ())
        self.check_both(NoNotes, web, rules, ((0, 9),))
        for notes in ((), ((0, 8), (8, 0), (4, 4))):
            with self.assertRaises(TooMany):
                strand(web, rules, notes)


class HopsTest(unittest.TestCase):
    def test_against_a_post_in_which_nobody_acts(self):
        draw = random.Random(74)
        seen = {}
        for many in [1, 2, 3, 5, 7, 9] * 8:
            near = neighbours(many) if draw.random() < 0.5 else set()
            web = web_of(many, links_of(drawn_web(draw, many, draw.choice([0.1, 0.3, 0.6]))) | near)
            told = []
            for u, t in product(range(many), repeat=2):
                post = Post(web, (None,) * many)
                post.send(u, t)
                post.settle(100)
                fits = post.log().count(("carry", 0)) if post.delivered() else None
                told.append(hops(web, u, t))
                self.assertEqual(told[-1], fits)
                self.assertIs(type(told[-1]), type(fits))
                seen[fits] = True
                self.assertEqual(hops(web, u, u), 0)
            self.assertIs(is_straight(web), None not in told)
            self.assertEqual(farthest(web), None if None in told else max(told))
        for many in (None, 0, 1, 2, 3, 4):
            self.assertIn(many, seen)

    def test_hops_by_hand(self):
        web = ((1, 2, 4), (0, 2), (1, 3), (2, 4), (3,))
        self.assertEqual([hops(web, 0, t) for t in range(5)], [0, 1, 1, 2, 1])
        self.assertEqual([hops(web, u, 0) for u in range(5)], [0, 1, 2, 3, 4])
        self.assertEqual((is_straight(web), farthest(web)), (True, 4))
        # The nearest one to whom it is for holds no further card.
        web = ((1, 2), (2, 3), (), ())
        self.assertEqual((hops(web, 0, 3), hops(web, 1, 3), hops(web, 0, 2)), (None, 1, 1))
        # Ways round don't count.
        self.assertIsNone(hops(ring(4), 3, 1))
        self.assertEqual((is_straight(ring(4)), farthest(ring(4))), (False, None))
        self.assertEqual((is_straight(((),)), farthest(((),)), hops(((),), 0, 0)), (True, 0, 0))
        self.assertEqual((farthest(crowd(9)), is_straight(crowd(9))), (1, True))

    def test_straight_exactly_where_everybody_holds_both_neighbours_cards(self):
        draw = random.Random(75)
        webs = [web for many in (1, 2, 3, 4) for web in all_webs(many)]
        for many in range(5, 10):
            for _ in range(20):
                links = links_of(drawn_web(draw, many, draw.choice([0.2, 0.9]))) | neighbours(many)
                webs.append(web_of(many, links))
                webs.append(web_of(many, links - {draw.choice(sorted(neighbours(many)))}))
        for web in webs:
            self.assertIs(is_straight(web), neighbours(len(web)) <= links_of(web))
            self.assertEqual(farthest(web), model_farthest(web))

    def test_errors(self):
        for thing in wrong_webs() + odd_things():
            for call in (
                lambda: hops(thing, 0, 0), lambda: hops(thing, None, 0), lambda: hops(thing, 0, True),
                lambda: is_straight(thing), lambda: farthest(thing),
            ):
                with self.assertRaises(NoWeb):
                    call()
        for many in (1, 2, 9):
            for odd in [*ODD_PEOPLE, many, many + 1]:
                for u, t in ((odd, 0), (0, odd), (odd, odd)):
                    with self.assertRaises(NoPerson):
                        hops(crowd(many), u, t)


class FewestFarTest(unittest.TestCase):
    def check_fewest(self, many, webs):
        """What fewest_far tells of so many people fits all these webs."""
        fewest = {}
        for web in webs:
            far, more = model_farthest(web), len(links_of(web) - neighbours(many))
            if far is not None:
                fewest[far] = min(more, fewest.get(far, more))
        for most in range(1, 5):
            told = fewest_far(many, most)
            self.assertIs(type(told), int)
            self.assertEqual(told, min(more for far, more in fewest.items() if far <= most))

    def test_against_all_webs(self):
        for many in (2, 3, 4):
            self.check_fewest(many, all_webs(many))

    def test_five_people(self):
        near = neighbours(5)
        more = [(u, w) for u, w in links_of(crowd(5)) if (u, w) not in near]
        self.check_fewest(5, [web_of(5, near | set(lot)) for lot in subsets(more)])

    def test_nothing_more_is_needed_for_as_many_hops_as_there_are_others(self):
        for many in range(2, 6):
            self.assertEqual(fewest_far(many, many - 1), 0)
            self.assertEqual(fewest_far(many, 1), (many - 1) * (many - 2))

    def test_no_number(self):
        wrong = [*odd_things(), *ODD_PEOPLE, 10, 100]
        for thing in [*wrong, 0, 1, 6, 9]:
            for most in (1, 4, 0, 5, None, True):
                with self.assertRaises(NoNumber):
                    fewest_far(thing, most)
        for thing in [*wrong, 0, 5]:
            for many in (2, 5):
                with self.assertRaises(NoNumber):
                    fewest_far(many, thing)


class FactTest(unittest.TestCase):
    def test_levelling_strands_no_note(self):
        draw = random.Random(76)
        count = 0
        for many in (1, 2, 3):
            for web in all_webs(many):
                links = links_of(web)
                if len(model_pieces(web)) > 1 or any((w, u) not in links for u, w in links):
                    continue
                count += 1
                rules = tuple(levelling(draw.randint(max(1, many - 1), 8)) for _ in web)
                pairs = list(product(range(many), repeat=2))
                lots = [(), *[(pair,) for pair in pairs]] + [tuple(draw.choices(pairs, k=3)) for _ in range(4)]
                for notes in lots + list(product(pairs, repeat=2)) * (many < 3):
                    self.assertIsNone(strand(web, rules, notes))
        self.assertEqual(count, 6)

    def test_without_cards_both_ways_notes_are_stranded(self):
        self.assertIsNotNone(strand(((1,), ()), (levelling(1),) * 2, ((1, 0),)))
        self.assertIsNotNone(strand(((1,), (0,), ()), (levelling(2),) * 3, ((0, 2),)))


if __name__ == "__main__":
    unittest.main()
