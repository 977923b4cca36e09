"""Promise 10: rules, and of 2, 3 and 4 what holds for them."""

import random
import unittest

from stillfound.deeds import behind, found
from stillfound.errors import BadRule, NoNumber, NoShape, NoWeb
from stillfound.rules import Rule, as_deeds, is_lost, levelling, lost, lost_web, small_web, taken
from stillfound.webs import is_web
from tests.helper import (
    Model, all_webs, drawn_pair, drawn_rows, drawn_standing, drawn_web, links_of, model_act,
    model_found, nested, odd_things, right_deeds, shapes, subsets, web_of, wrong_webs,
)

# Of two below the lesser one is thrown away; of two above, one each side, the greater one is given.
THROWS = {(2, 0): ((1,), ()), (0, 2): ((0,), ((0, 1),)), (1, 1): ((0, 1), ((0, -1), (1, 0)))}

WRONG_MOSTS = [0, -1, 9, 10, 10 ** 999, True, False, None, "1", "", (), (1,), [], [1], {}, {1: 1}]


def keeps_all(most):
    """The rows that keep all and send nothing."""
    return {shape: (tuple(range(sum(shape))), ()) for shape in shapes(most)}


def drawn_safe_rows(draw, most, chance):
    """Rows by which nobody is lost: whatever isn't kept is sent to somebody who is found."""
    rows = {}
    for shape in shapes(most):
        order = draw.sample(range(sum(shape)), sum(shape))
        keeps = draw.randint(1, len(order))
        kept, sent = order[:keeps], set(drawn_pair(draw, sum(shape), 0)[1])
        for at in range(keeps, len(order)):
            sent.add((draw.choice(order[:at]), order[at]))
        if draw.random() < chance:
            rows[shape] = (tuple(sorted(kept)), tuple(sorted(sent)))
    return rows


def company(shape):
    """The web in which the one in the middle alone holds cards: those of all others."""
    below, above = shape
    many = below + above + 1
    return web_of(many, {(below, w) for w in range(many) if w != below})


def model_small(shape, rows):
    """The standing and the web behind an act in the small company."""
    web, letters = model_act((company(shape), ()), shape[0], rows)
    return (web, letters), web_of(len(web), links_of(web) | set(letters))


def model_lost(rows):
    """The list of all that are lost by an act by these rows."""
    told = []
    for shape in sorted(rows):
        web = model_small(shape, rows)[1]
        seen = model_found(len(web), links_of(web))[shape[0]]
        people = [w for w in range(len(web)) if w != shape[0]]
        told += [(*shape, index) for index, w in enumerate(people) if w not in seen]
    return told


def wrong_shapes():
    """What is no shape of together 0 to 8 cards."""
    return [
        (), (1,), (1, 0, 0), (9, 0), (0, 9), (5, 4), (-1, 2), (2, -1), (-1, 0), (10 ** 999, 0),
        (True, 0), (0, True), (False, False), (1, False), ("1", 0), (1, None), (None, 1), ((1,), 0),
        [1, 0], ([1], 0), {1: 0}, "10", None, 5, 1, True, (1, [0]), ((1, 0),), (1, (0,)), (-1, 1),
        nested(28, lambda x: (x, 0)), nested(28, lambda x: [x]), NoWeb(), (NoWeb(), 1), (1,) * 90000,
    ]


class RuleTest(unittest.TestCase):
    def check_bad(self, most, rows, part):
        with self.assertRaises(BadRule) as caught:
            Rule(most, rows)
        self.assertEqual(caught.exception.part, part)
        self.assertIs(type(caught.exception.part), type(part))

    def test_right_rules(self):
        for most in range(1, 9):
            self.assertEqual(Rule(most, {}).table(), {})
            self.assertEqual(Rule(most, {}).most, most)
            rule = Rule(most, keeps_all(most))
            self.assertEqual(rule.table(), keeps_all(most))
            self.assertIs(type(rule.most), int)

    def test_right_pairs(self):
        right = [
            ((), ()), ((0,), ()), ((2,), ()), ((0, 2), ()), ((0, 1, 2), ()), ((), ((0, -1),)), ((), ((2, -1),)),
            ((), ((0, 1), (0, 2), (1, -1), (1, 0), (2, 0))), ((1,), ((0, -1), (0, 1), (2, 1))),
        ]
        for pair in right:
            for shape in ((3, 0), (2, 1), (1, 2), (0, 3)):
                self.assertEqual(Rule(3, {shape: pair}).table(), {shape: pair})

    def test_all_pairs_of_two_by_the_words_of_the_point(self):
        numbers = [-2, -1, 0, 1, 2, True, False, None]
        kepts = [()] + [(k,) for k in numbers] + [(k, j) for k in numbers for j in numbers]
        sendings = [(to, what) for to in numbers for what in numbers]
        right_kept = {(), (0,), (1,), (0, 1)}
        right_sent = set(subsets([(0, -1), (0, 1), (1, -1), (1, 0)]))
        sents = [()] + [(one,) for one in sendings]
        sents += [(one, other) for one in sendings for other in sendings[::3]]
        for kept in kepts:
            for sent in sents if kept in ((), (0, 1), (True,)) else sents[:30]:
                plain = not any(type(k) is bool for k in (*kept, *[x for item in sent for x in item]))
                if plain and kept in right_kept and sent in right_sent:
                    self.assertEqual(Rule(2, {(1, 1): (kept, sent)}).table(), {(1, 1): (kept, sent)})
                else:
                    self.check_bad(2, {(1, 1): (kept, sent)}, (1, 1))

    def test_wrong_most(self):
        for most in WRONG_MOSTS + [nested(30, lambda x: [x]), NoWeb(), Rule(1, {})]:
            for rows in ({}, None, {(1, 0): None}, {"a": 1}):
                self.check_bad(most, rows, "most")

    def test_what_is_no_dict(self):
        for rows in odd_things():
            if not isinstance(rows, dict):
                self.check_bad(3, rows, "rows")
        for rows in (((1, 0), ((0,), ())), [((1, 0), ((0,), ()))], Rule(3, {}), shapes(3)):
            self.check_bad(3, rows, "rows")

    def test_other_keys(self):
        keys = [
            (0, 0), (4, 0), (0, 4), (2, 2), (1, 3), (3, 1), (-1, 2), (2, -1), (1,), (), (1, 0, 0), 1, 0, None, "",
            "10", "most", ("1", 0), (1, "0"), (None, 1), (1, None), ((1,), 0), ((1, 0),), -1, 10 ** 999,
            (10 ** 999, 0), (3, -1), (-1, 4),
        ]
        for key in keys:
            self.check_bad(3, {key: ((), ())}, "rows")
            self.check_bad(3, {(1, 0): ((0,), ()), key: ((), ())}, "rows")
            # Another key is told ahead of a wrong pair.
            self.check_bad(3, {(0, 1): None, key: None}, "rows")
        for most in range(1, 9):
            self.check_bad(most, {(most, 1): ((), ())}, "rows")
            self.check_bad(most, {(0, most + 1): ((), ())}, "rows")
            self.assertEqual(len(Rule(most, {(most, 0): ((), ()), (0, most): ((), ())}).table()), 2)

    def test_wrong_pairs(self):
        wrong = [
            None, (), ((),), ((), (), ()), [(), ()], ([], ()), ((), []), (0, ()), ((), 0), ((0,), None), (None, ()),
            ("", ()), ((), ""), ({}, ()), ((), {}), "ab", {}, 5, True, {0: (), 1: ()}, ((), ((),)), ((), ((0,),)),
            # Of kept: an index that isn't there, twice, not ascending, no integer.
            ((3,), ()), ((-1,), ()), ((-2,), ()), ((0, 3), ()), ((0, 0), ()), ((1, 0), ()), ((0, 2, 1), ()),
            ((0, 1, 1), ()), ((True,), ()), ((False,), ()), ((0, True), ()), (("0",), ()), ((None,), ()),
            (((0,),), ()), (([0],), ()), ((10 ** 999,), ()), ([0], ()), ((0, None), ()), ((0, "1"), ()),
            # Of sent: somebody who isn't there, oneself, the same one, -2.
            ((), ((3, 0),)), ((), ((-1, 0),)), ((), ((-1, -1),)), ((), ((0, 3),)), ((), ((0, 0),)), ((), ((2, 2),)),
            ((), ((0, -2),)), ((), ((10 ** 999, 0),)), ((), ((0, -(10 ** 999)),)), ((), ((0, 10 ** 999),)),
            ((), ((True, 0),)), ((), ((0, True),)), ((), ((1, False),)), ((), (("0", 1),)), ((), ((0, "1"),)),
            ((), ((0, None),)), ((), ((None, 0),)), ((), ([0, 1],)), ((), [(0, 1)]), ((), (0, 1)), ((), ((0, 1, 2),)),
            ((), ("01",)), ((), (None,)), ((), ({0: 1},)), ((), (((0, 1), (1, 0)),)), ((), ((0, [1]),)),
            ((), ((0, 1), (0, 1))), ((), ((0, 2), (0, 1))), ((), ((1, 0), (0, 1))), ((), ((0, 1), (0, -1))),
            ((), ((0, -1), (0, 1), (2, 0), (1, 0))), ((), ((0, 1), None)), (nested(28, lambda x: (x,)), ()),
            ((), nested(28, lambda x: (x,))), nested(28, lambda x: [x]), ((0,) * 40000, ()), ((), ((0, 1),) * 20000),
            NoWeb(), (NoWeb(), ()), ((), NoWeb()), Rule(1, {}), ((Rule(1, {}),), ()), ((), ((0, Rule(1, {})),)),
        ]
        for pair in wrong:
            with self.subTest(repr(pair)[:60]):
                for shape in ((3, 0), (1, 2), (0, 3)):
                    self.check_bad(5, {shape: pair}, shape)
                    self.check_bad(5, {(5, 0): ((), ()), shape: pair, (0, 1): ((0,), ())}, shape)

    def test_indexes_go_up_to_the_cards_of_the_shape(self):
        for shape in shapes(8):
            many = sum(shape)
            self.assertEqual(Rule(8, {shape: ((many - 1,), ())}).table(), {shape: ((many - 1,), ())})
            self.check_bad(8, {shape: ((many,), ())}, shape)
            self.check_bad(8, {shape: ((), ((many, -1),))}, shape)
            self.check_bad(8, {shape: ((), ((0, many),))}, shape)

    def test_the_least_shape_is_told(self):
        self.check_bad(4, {(2, 0): None, (0, 3): None, (1, 0): None, (0, 1): ((), ())}, (0, 3))
        self.check_bad(4, {(2, 1): 0, (1, 3): 0, (2, 0): 0, (1, 2): ((), ())}, (1, 3))
        self.check_bad(4, {(3, 0): 0, (0, 4): ((), ()), (2, 2): 0}, (2, 2))

    def test_table_is_new_each_time(self):
        rows = dict(THROWS)
        rule = Rule(2, rows)
        rows[0, 1] = None
        del rows[2, 0]
        self.assertEqual(rule.table(), THROWS)
        told = rule.table()
        self.assertIs(type(told), dict)
        told.clear()
        self.assertEqual(rule.table(), THROWS)
        rule.table()[0, 1] = ((), ())
        self.assertEqual(rule, Rule(2, THROWS))
        self.assertEqual(small_web(rule, (0, 1)), ((1,), ()))

    def test_dict_that_is_handed_in_is_kept(self):
        rows = {(1, 0): ((0,), ()), (0, 1): [1, [2]], (2, 0): None}
        self.check_bad(3, rows, (0, 1))
        self.assertEqual(rows, {(1, 0): ((0,), ()), (0, 1): [1, [2]], (2, 0): None})
        Rule(2, THROWS)
        self.assertEqual(list(THROWS), [(2, 0), (0, 2), (1, 1)])

    def test_equal(self):
        self.assertTrue(Rule(2, THROWS) == Rule(2, dict(sorted(THROWS.items()))))
        self.assertFalse(Rule(2, THROWS) != Rule(2, THROWS))
        self.assertTrue(Rule(1, {}) == Rule(1, {}))
        self.assertIs(Rule(2, THROWS) == Rule(2, THROWS), True)

    def test_unequal(self):
        others = [
            Rule(3, THROWS), Rule(2, {}), Rule(2, {**THROWS, (1, 0): ((), ())}), Rule(2, {**THROWS, (2, 0): ((0,), ())}),
            Rule(2, {**THROWS, (2, 0): ((1,), ((0, 1),))}), Rule(2, {(2, 0): THROWS[2, 0]}),
            THROWS, (2, THROWS), 2, None, True, False, "", (), [], {}, NoWeb(), Rule(2, THROWS).table(),
        ]
        for other in others:
            self.assertFalse(Rule(2, THROWS) == other)
            self.assertFalse(other == Rule(2, THROWS))
            self.assertTrue(Rule(2, THROWS) != other)
        self.assertIs(Rule(1, {}) == Rule(2, {}), False)


class SmallWebTest(unittest.TestCase):
    def test_by_the_words_of_the_point(self):
        rule = Rule(2, THROWS)
        self.assertEqual(small_web(rule, (2, 0)), ((), (), (1,)))
        self.assertEqual(small_web(rule, (0, 2)), ((1,), (2,), ()))
        self.assertEqual(small_web(rule, (1, 1)), ((1,), (0, 2), (0,)))

    def test_without_a_row(self):
        for rule in (Rule(1, {}), Rule(8, {}), Rule(2, THROWS)):
            for shape in [(0, 0), (0, 1), (1, 0), (3, 0), (2, 2), (8, 0), (0, 8), (3, 5)]:
                self.assertEqual(small_web(rule, shape), company(shape))
        self.assertEqual(small_web(Rule(1, {}), (0, 0)), ((),))
        self.assertEqual(small_web(Rule(1, {}), (1, 1)), ((), (0, 2), ()))

    def test_drawn_rules(self):
        draw = random.Random(20)
        for _ in range(60):
            most = draw.randint(1, 8)
            rows = drawn_rows(draw, most, draw.choice([0.3, 0.7]), draw.choice([0.5, 1]))
            rule = Rule(most, rows)
            for shape in [(0, 0), *shapes(8)]:
                told = small_web(rule, shape)
                self.assertEqual(told, model_small(shape, rows)[1])
                self.assertIs(is_web(told), True)

    def test_no_shape(self):
        for shape in wrong_shapes() + odd_things():
            for rule in (Rule(8, {}), levelling(2)):
                with self.subTest(repr(shape)[:60]):
                    with self.assertRaises(NoShape):
                        small_web(rule, shape)
                    with self.assertRaises(NoShape):
                        as_deeds(rule, shape)


class LostTest(unittest.TestCase):
    def test_by_the_words_of_the_point(self):
        self.assertEqual(lost(Rule(2, THROWS)), [(2, 0, 0)])
        self.assertEqual(lost(Rule(3, {})), [])
        self.assertEqual(
            lost(Rule(2, {(1, 1): ((), ()), (0, 1): ((), ((0, -1),)), (0, 2): ((1,), ((0, 1),))})),
            [(0, 1, 0), (0, 2, 0), (1, 1, 0), (1, 1, 1)],
        )

    def test_chains_of_letters(self):
        # 0 is kept, 0 is told of 1, and 1 of 2.
        self.assertEqual(lost(Rule(3, {(1, 2): ((0,), ((0, 1), (1, 2)))})), [])
        self.assertEqual(lost(Rule(3, {(1, 2): ((0,), ((1, 2), (2, 1)))})), [(1, 2, 1), (1, 2, 2)])

    def test_letters_with_the_own_card_lead_nowhere_further(self):
        self.assertEqual(lost(Rule(2, {(1, 1): ((0,), ((0, -1), (1, -1)))})), [(1, 1, 1)])

    def test_levelling_and_keeping_lose_nobody(self):
        for most in range(1, 9):
            for rule in (levelling(most), Rule(most, keeps_all(most))):
                self.assertEqual(lost(rule), [])
                self.assertIsNone(lost_web(rule))

    def test_drawn_rules(self):
        draw = random.Random(21)
        losing = 0
        for _ in range(150):
            most = draw.randint(1, 8)
            rows = drawn_rows(draw, most, draw.choice([0.5, 0.8]), draw.choice([0.3, 0.8]))
            rule = Rule(most, dict(draw.sample(sorted(rows.items()), len(rows))))
            self.assertEqual(lost(rule), model_lost(rows))
            self.assertEqual(lost(rule), sorted(lost(rule)))
            self.check_lost_web(rule, rows)
            losing += bool(lost(rule))
        self.assertGreater(losing, 50)

    def check_lost_web(self, rule, rows):
        told = lost_web(rule)
        self.assertEqual(told is None, model_lost(rows) == [])
        self.assertEqual(lost_web(rule), told)
        if told is not None:
            self.assertIs(type(told), tuple)
            web, u, w = told
            self.assertIs(is_web(web), True)
            self.assertIn(w, web[u])
            self.assertNotIn(w, found(model_act((web, ()), u, rows))[u])
            self.assertIs(is_lost(rule, told), True)

    def test_drawn_rules_by_which_nobody_is_lost(self):
        draw = random.Random(22)
        for _ in range(60):
            most = draw.randint(1, 8)
            rule = Rule(most, drawn_safe_rows(draw, most, 0.9))
            self.assertEqual(lost(rule), [])
            self.assertIsNone(lost_web(rule))

    def test_lists_are_new(self):
        rule = Rule(2, THROWS)
        told = lost(rule)
        self.assertEqual([type(told), type(told[0])], [list, tuple])
        told.clear()
        self.assertEqual(lost(rule), [(2, 0, 0)])

    def test_fact_nobody_is_ever_lost_by_such_rules(self):
        draw = random.Random(23)
        for _ in range(80):
            standing = drawn_standing(draw, draw.randint(2, 6))
            many = len(standing[0])
            rules = [drawn_safe_rows(draw, draw.randint(1, 8), 0.8) for _ in range(many)]
            before = found(standing)
            for _ in range(15):
                u = draw.randrange(many)
                deeds = [deed for deed in right_deeds(range(many)) if Model(standing).lets(deed)]
                deeds = [deed for deed in deeds if deed[0] != "turn"]
                if draw.random() < 0.5:
                    standing = model_act(standing, u, rules[u])
                elif deeds:
                    standing = behind(standing, (draw.choice(deeds),), False)
                for lot, kept in zip(before, found(standing)):
                    self.assertLessEqual(set(lot), set(kept))
                before = found(standing)


class IsLostTest(unittest.TestCase):
    def model_is(self, rows, web, u, w):
        return w in web[u] and w not in found(model_act((web, ()), u, rows))[u]

    def test_all_webs_of_up_to_three(self):
        draw = random.Random(24)
        told = {True: 0, False: 0}
        for _ in range(12):
            rows = drawn_rows(draw, 2, draw.choice([0.3, 0.6]), 0.8)
            rule = Rule(2, rows)
            lots = False
            for many in (1, 2, 3):
                for web in all_webs(many):
                    for u in range(many):
                        for w in range(many):
                            right = self.model_is(rows, web, u, w)
                            self.assertIs(is_lost(rule, (web, u, w)), right)
                            told[right] += 1
                            lots = lots or right
            # A shape of two cards may lose somebody in a web of three alone.
            self.assertEqual(lots, lost(rule) != [])
        self.assertGreater(min(told.values()), 100)

    def test_drawn_webs_of_up_to_nine(self):
        draw = random.Random(25)
        told = {True: 0, False: 0}
        for _ in range(600):
            many = draw.randint(4, 9)
            web = drawn_web(draw, many, draw.choice([0.1, 0.3]))
            rows = drawn_rows(draw, 8, 0.6, 1)
            rule = Rule(8, rows)
            u = draw.randrange(many)
            for w in range(many):
                right = self.model_is(rows, web, u, w)
                self.assertIs(is_lost(rule, (web, u, w)), right)
                told[right] += 1
        self.assertGreater(min(told.values()), 100)

    def test_who_is_found_by_others_is_not_lost(self):
        rule = Rule(2, {(0, 2): ((0,), ())})
        self.assertIs(is_lost(rule, (((1, 2), (), ()), 0, 2)), True)
        self.assertIs(is_lost(rule, (((1, 2), (2,), ()), 0, 2)), False)
        self.assertIs(is_lost(rule, (((1, 2), (), ()), 0, 1)), False)

    def test_who_was_not_held_is_not_lost(self):
        rule = Rule(1, {(0, 1): ((), ())})
        self.assertIs(is_lost(rule, (((1,), (2,), ()), 0, 1)), True)
        self.assertIs(is_lost(rule, (((1,), (2,), ()), 0, 2)), False)
        self.assertIs(is_lost(rule, (((1,), (2,), ()), 0, 0)), False)
        self.assertIs(is_lost(rule, (((1,), (2,), ()), 2, 0)), False)

    def test_things_that_are_no_triples(self):
        rule = Rule(8, {shape: ((), ()) for shape in shapes(8)})
        web = ((1,), (0,))
        self.assertIs(is_lost(rule, (web, 0, 1)), True)
        wrong = [
            [web, 0, 1], (web, 0), (web, 0, 1, 0), (web,), web, (0, 1, web), (web, False, 1), (web, 0, True),
            (web, -1, 0), (web, -2, 1), (web, 0, -1), (web, 2, 0), (web, 0, 2), (web, 10 ** 999, 0), (web, 0, 10 ** 999),
            (web, "0", 1), (web, 0, "1"), (web, None, 1), (web, 0, None), (web, (0,), 1), (web, 0, (1,)), (web, [0], [1]),
            (list(web), 0, 1), ([*web], 0, 1), (([1], (0,)), 0, 1), (((True,), (0,)), 0, 1), (((1,), (0, 0)), 0, 1),
            (((0,), (0,)), 1, 0), (None, 0, 1), ((), 0, 1), ({0: (1,)}, 0, 1), ("10", 0, 1), {0: web, 1: 0, 2: 1},
            (((1,),) + ((),) * 9, 0, 1), ((web, ()), 0, 1), (nested(28, lambda x: (x,)), 0, 1), NoWeb(), rule,
            (rule, 0, 1), (web, rule, 1), (web, 0, rule), (web, 0, nested(28, lambda x: [x])), (web, 0, 1) * 30000,
        ]
        for thing in wrong + odd_things() + wrong_webs():
            with self.subTest(repr(thing)[:60]):
                self.assertIs(is_lost(rule, thing), False)
        for web in wrong_webs():
            with self.subTest(repr(web)[:60]):
                self.assertIs(is_lost(rule, (web, 0, 1)), False)


class AsDeedsTest(unittest.TestCase):
    def check_as_deeds(self, rule, rows, shape):
        told = as_deeds(rule, shape)
        self.assertEqual(as_deeds(rule, shape), told)
        if model_lost({shape: rows[shape]} if shape in rows else {}):
            self.assertIsNone(told)
            return
        self.assertIs(type(told), tuple)
        model = Model((company(shape), ()))
        for deed in told:
            self.assertIn(deed[0], ("show", "give"))
            self.assertEqual(deed[1], shape[0])
            self.assertTrue(model.lets(deed))
            model.does(deed)
        self.assertEqual(model.standing(), model_small(shape, rows)[0])
        self.assertEqual(behind((company(shape), ()), told, False), model_small(shape, rows)[0])

    def test_levelling_and_keeping(self):
        for most in range(1, 9):
            for rule in (levelling(most), Rule(most, keeps_all(most))):
                for shape in [(0, 0), *shapes(8)]:
                    self.check_as_deeds(rule, rule.table(), shape)

    def test_drawn_rules(self):
        draw = random.Random(26)
        for _ in range(50):
            most = draw.randint(1, 8)
            rows = drawn_rows(draw, most, draw.choice([0.5, 0.8]), 0.7)
            for shape in [(0, 0), *shapes(8)]:
                self.check_as_deeds(Rule(most, rows), rows, shape)

    def test_drawn_rules_by_which_nobody_is_lost(self):
        draw = random.Random(27)
        for _ in range(50):
            most = draw.randint(1, 8)
            rows = drawn_safe_rows(draw, most, 0.9)
            for shape in shapes(most):
                self.check_as_deeds(Rule(most, rows), rows, shape)

    def test_all_rows_of_two_cards(self):
        sendings = [(0, -1), (0, 1), (1, -1), (1, 0)]
        for kept in subsets([0, 1]):
            for sent in subsets(sendings):
                for shape in ((2, 0), (1, 1), (0, 2)):
                    rows = {shape: (kept, sent)}
                    self.check_as_deeds(Rule(2, rows), rows, shape)

    def test_by_the_words_of_the_point(self):
        rule = Rule(2, THROWS)
        self.assertEqual(as_deeds(rule, (0, 2)), (("give", 0, 1, 2),))
        self.assertIsNone(as_deeds(rule, (2, 0)))
        self.assertEqual(set(as_deeds(rule, (1, 1))), {("show", 1, 0, 1), ("show", 1, 2, 0)})
        self.assertEqual(as_deeds(rule, (0, 0)), ())
        self.assertEqual(as_deeds(rule, (1, 0)), ())
        self.assertEqual(as_deeds(rule, (4, 4)), ())

    def test_longest_chain_is_given_from_its_end(self):
        rows = {(0, 8): ((3,), tuple((k, (k + 1) % 8) for k in range(8)))}
        self.check_as_deeds(Rule(8, rows), rows, (0, 8))
        rows = {(4, 4): ((0,), tuple((k, k + 1) for k in range(7)))}
        self.check_as_deeds(Rule(8, rows), rows, (4, 4))
        rows = {(8, 0): ((7,), tuple((k + 1, k) for k in range(7)))}
        self.check_as_deeds(Rule(8, rows), rows, (8, 0))


class TakenTest(unittest.TestCase):
    def test_asks_once_for_each_shape_ascending(self):
        for most in range(1, 9):
            asked = []
            rule = taken(lambda below, above: asked.append((below, above)), most)
            self.assertEqual(asked, sorted(shapes(most)))
            self.assertEqual(rule, Rule(most, {}))

    def test_the_rule_that_is_told(self):
        draw = random.Random(28)
        for _ in range(20):
            most = draw.randint(1, 8)
            rows = drawn_rows(draw, most, 0.5, 0.6)
            rule = taken(lambda below, above: rows.get((below, above)), most)
            self.assertEqual(rule, Rule(most, rows))
            self.assertEqual(rule.table(), rows)
            self.assertEqual(rule.most, most)

    def test_wrong_answers(self):
        wrong = [
            False, True, 0, 5, "", "a", (), [], {}, ((),), [(), ()], ([], ()), ((), []), ((2,), ()), ((1, 0), ()),
            ((), ((0, 0),)), ((), ((0, 2),)), ((True,), ()), ((), ((0, -2),)), (None, None), NoWeb(), Rule(1, {}),
            nested(30, lambda x: [x]),
        ]
        for answer in wrong:
            for at in ((0, 2), (1, 1), (2, 0)):
                with self.assertRaises(BadRule) as caught:
                    taken(lambda below, above: answer if (below, above) == at else None, 3)
                self.assertEqual(caught.exception.part, at)

    def test_the_least_shape_is_told(self):
        with self.assertRaises(BadRule) as caught:
            taken(lambda below, above: () if below + above == 2 else None, 4)
        self.assertEqual(caught.exception.part, (0, 2))
        with self.assertRaises(BadRule) as caught:
            taken(lambda below, above: ((below,), ()), 4)
        self.assertEqual(caught.exception.part, (1, 0))

    def test_asks_for_each_shape_ahead_of_the_error(self):
        asked = []
        with self.assertRaises(BadRule) as caught:
            taken(lambda below, above: asked.append((below, above)) or below, 3)
        self.assertEqual(caught.exception.part, (0, 1))
        self.assertEqual(asked, sorted(shapes(3)))

    def test_own_errors_go_on(self):
        def fails(below, above):
            raise KeyError((below, above))

        with self.assertRaises(KeyError) as caught:
            taken(fails, 2)
        self.assertEqual(caught.exception.args, ((0, 1),))

        def bars(below, above):
            if below == 1:
                raise NoWeb()

        with self.assertRaises(NoWeb):
            taken(bars, 2)
        self.assertEqual(taken(lambda below, above: None if below == 0 else bars(0, above), 2), Rule(2, {}))

    def test_no_number(self):
        asked = []
        for most in WRONG_MOSTS + odd_things():
            with self.subTest(repr(most)[:60]):
                with self.assertRaises(NoNumber):
                    taken(lambda below, above: asked.append(below), most)
                with self.assertRaises(NoNumber):
                    levelling(most)
        self.assertEqual(asked, [])


class LevellingTest(unittest.TestCase):
    def test_written_out(self):
        self.assertEqual(levelling(1).table(), {(0, 1): ((0,), ()), (1, 0): ((0,), ())})
        self.assertEqual(levelling(2).table(), {
            (0, 1): ((0,), ()), (1, 0): ((0,), ()), (1, 1): ((0, 1), ()),
            (0, 2): ((0,), ((0, 1), (1, 0))), (2, 0): ((1,), ((0, 1), (1, 0))),
        })
        rows = levelling(8).table()
        self.assertEqual(rows[3, 0], ((2,), ((0, 1), (1, 0), (1, 2), (2, 1))))
        self.assertEqual(rows[2, 2], ((1, 2), ((0, 1), (1, 0), (2, 3), (3, 2))))
        self.assertEqual(rows[1, 3], ((0, 1), ((1, 2), (2, 1), (2, 3), (3, 2))))
        self.assertEqual(rows[0, 3], ((0,), ((0, 1), (1, 0), (1, 2), (2, 1))))
        self.assertEqual(rows[4, 1], ((3, 4), ((0, 1), (1, 0), (1, 2), (2, 1), (2, 3), (3, 2))))

    def test_all_shapes_by_the_words_of_the_point(self):
        for most in range(1, 9):
            rule = levelling(most)
            self.assertEqual(rule.most, most)
            self.assertEqual(set(rule.table()), set(shapes(most)))
            for (below, above), (kept, sent) in rule.table().items():
                lesser, greater = list(range(below)), list(range(below, below + above))
                nearest = [max(lesser)] if lesser else []
                nearest += [min(greater)] if greater else []
                self.assertEqual(kept, tuple(nearest))
                pairs = set()
                for side in (lesser, greater):
                    for one, other in zip(side, side[1:]):
                        pairs |= {(one, other), (other, one)}
                self.assertEqual(sent, tuple(sorted(pairs)))

    def test_new_and_equal(self):
        self.assertEqual(levelling(3), levelling(3))
        self.assertNotEqual(levelling(3), levelling(4))
        self.assertEqual(Rule(4, levelling(4).table()), levelling(4))


if __name__ == "__main__":
    unittest.main()
