"""Promises 1 to 5 and 20 over the whole program."""

import copy
import unittest
from itertools import product

from stillfound.allposts import farthest, fewest_far, hops, is_straight, is_strand, strand
from stillfound.allruns import endless, is_endless, rests, sure
from stillfound.deeds import behind, fault, found, is_standing
from stillfound.errors import (
    BadRule, BadText, CardError, NoNotes, NoNumber, NoPerson, NoRow, NoRules, NoShape, NoStanding, NoText, NoWeb,
)
from stillfound.farewells import farewell, is_spare, spare
from stillfound.journals import journal, recovered
from stillfound.kinship import are_kin, kin, least_cards, least_web
from stillfound.post import Post
from stillfound.register import Register
from stillfound.rules import Rule, as_deeds, is_lost, levelling, lost, lost_web, small_web, taken
from stillfound.texts import read_row, read_web, row_text, web_text
from stillfound.town import Town
from stillfound.vanishing import firm, greatest_firm, weak
from stillfound.webs import finds, is_web, knots, pieces
from stillfound.wishes import fewest, full, is_script, lack, leads, script
from tests.helper import TELLS, crowd, line, nested, ring

WEB = ((1, 2), (), (1,))
WISH = ((1,), (2,), (1,))
STANDING = (WEB, ((1, 2),))
ROW = (("come", 1, 2), ("show", 0, 1, 2))
RULES = (levelling(2), None, TELLS)
ROWS = {(0, 2): ((0,), ((0, 1),)), (1, 0): ((), ()), (1, 1): ((1,), ((0, -1),))}
RULE = Rule(2, ROWS)

# All functions of the interface, each with arguments that are right, and the errors for those that are wrong;
# None for an argument of which all values that the point describes are right.
CALLS = [
    (is_web, [(WEB, None)]),
    (finds, [(WEB, NoWeb)]),
    (pieces, [(WEB, NoWeb)]),
    (knots, [(WEB, NoWeb)]),
    (is_standing, [(STANDING, None)]),
    (found, [(STANDING, NoStanding)]),
    (fault, [(STANDING, NoStanding), (ROW, NoRow), (True, None)]),
    (behind, [(STANDING, NoStanding), (ROW, NoRow), (False, None)]),
    (leads, [(WEB, NoWeb), (WISH, NoWeb), (False, None)]),
    (script, [(WEB, NoWeb), (WISH, NoWeb), (False, None)]),
    (is_script, [(WEB, NoWeb), (WISH, NoWeb), (False, None), (ROW, None)]),
    (full, [(WEB, NoWeb), (WISH, NoWeb)]),
    (lack, [(WISH, NoWeb), (WEB, NoWeb)]),
    (fewest, [(WEB, NoWeb), (WISH, NoWeb), (True, None)]),
    (are_kin, [(WEB, NoWeb), (WISH, NoWeb)]),
    (least_cards, [(WEB, NoWeb)]),
    (least_web, [(WEB, NoWeb)]),
    (kin, [(WEB, NoWeb)]),
    (Rule, [(2, BadRule), (ROWS, BadRule)]),
    (small_web, [(RULE, None), ((1, 1), NoShape)]),
    (lost, [(RULE, None)]),
    (lost_web, [(RULE, None)]),
    (is_lost, [(RULE, None), ((((), (), (0, 1)), 2, 0), None)]),
    (as_deeds, [(RULE, None), ((0, 2), NoShape)]),
    (taken, [(lambda below, above: ((0,), ()), None), (3, NoNumber)]),
    (levelling, [(3, NoNumber)]),
    (Town, [(WEB, NoWeb), (RULES, NoRules)]),
    (Post, [(WEB, NoWeb), (RULES, NoRules)]),
    (rests, [(WEB, NoWeb), (RULES, NoRules)]),
    (endless, [(WEB, NoWeb), (RULES, NoRules)]),
    (is_endless, [(WEB, NoWeb), (RULES, NoRules), (((), (("act", 0),)), None)]),
    (sure, [(WEB, NoWeb), (RULES, NoRules)]),
    (strand, [(WEB, NoWeb), (RULES, NoRules), (((0, 2), (1, 0)), NoNotes)]),
    (is_strand, [(WEB, NoWeb), (RULES, NoRules), (((0, 2),), NoNotes), (((), 0), None)]),
    (hops, [(WEB, NoWeb), (0, NoPerson), (2, NoPerson)]),
    (is_straight, [(WEB, NoWeb)]),
    (farthest, [(WEB, NoWeb)]),
    (fewest_far, [(4, NoNumber), (2, NoNumber)]),
    (is_spare, [(STANDING, NoStanding), (1, NoPerson)]),
    (spare, [(WEB, NoWeb)]),
    (farewell, [(STANDING, NoStanding), (1, NoPerson)]),
    (firm, [(WEB, NoWeb), (1, NoNumber)]),
    (weak, [(WEB, NoWeb), (1, NoNumber)]),
    (greatest_firm, [(WEB, NoWeb)]),
    (web_text, [(WEB, NoWeb)]),
    (row_text, [(ROW, NoRow)]),
    (read_web, [("0: 1\n1:", BadText)]),
    (read_row, [("come 1 2", BadText)]),
    (recovered, [(WEB, NoWeb), (RULES, NoRules), (levelling(1), NoRules), ("act 0 #1\n", NoText)]),
    (Register, [(5, NoNumber)]),
]


def wrong_things():
    """Values that are right for no argument for which a point names an error."""
    return [
        nested(30, lambda thing: [thing]), nested(30, lambda thing: (thing,)), nested(30, lambda thing: {"a": thing}),
        nested(15, lambda thing: ([thing],)), nested(29, lambda thing: (thing, (1, 2), ())),
        nested(30, lambda thing: (thing, ("way", 0, 1), ((), ()))), True, -1, [], {0: 0}, NoWeb(), Post(WEB, RULES),
        Register(3), RULES + RULES, (RULE, 0), [WEB], (WEB, WEB), ((STANDING,), ()), (("act", 0), ("come", 1, 2)), 10 ** 999,
        # 200 of 1000 figures: as much as may be.
        [10 ** 999] * 200, (nested(28, lambda thing: [thing]),) * 1000,
    ]


def plain(value):
    """What can be compared of a result: a class of the package has no equality of its own but Rule."""
    if isinstance(value, (Town, Register)):
        return journal(value) if isinstance(value, Town) else (value.cards(), value.log())
    return [plain(item) for item in value] if type(value) is tuple else value


def spoilt(value):
    """Change all lists and dicts within a result."""
    if isinstance(value, dict):
        value["spoilt"] = True
    if isinstance(value, list):
        value.append("spoilt")
    if isinstance(value, (tuple, list)):
        for item in value:
            if item != "spoilt":
                spoilt(item)


class CallsTest(unittest.TestCase):
    def test_equal_calls_have_equal_results_and_new_lists(self):
        for function, arguments in CALLS:
            with self.subTest(function.__name__):
                values = [value for value, _ in arguments]
                one = function(*values)
                kept = copy.deepcopy(plain(one))
                spoilt(one)
                # What is equal is made anew, so that nothing hangs on which object it is.
                others = [value if callable(value) else copy.deepcopy(value) for value in values]
                self.assertEqual(plain(function(*others)), kept)
                self.assertEqual(plain(function(*values)), kept)

    def test_arguments_stay_as_they_were(self):
        for function, arguments in CALLS:
            with self.subTest(function.__name__):
                values = [value for value, _ in arguments]
                before = [repr(value) for value in values]
                tables = [rule.table() for rule in (*RULES, RULE) if rule is not None]
                function(*values)
                self.assertEqual([repr(value) for value in values], before)
                self.assertEqual([rule.table() for rule in (*RULES, RULE) if rule is not None], tables)

    def test_whatever_is_wrong_the_first_error_is_told(self):
        for function, arguments in CALLS:
            checked = [at for at, (_, error) in enumerate(arguments) if error is not None]
            for which in product([False, True], repeat=len(checked)):
                wrong = [at for at, is_wrong in zip(checked, which) if is_wrong]
                for thing in wrong_things() if wrong else []:
                    values = [thing if at in wrong else value for at, (value, _) in enumerate(arguments)]
                    with self.subTest(function.__name__, wrong=wrong):
                        with self.assertRaises(CardError) as caught:
                            function(*values)
                        self.assertIs(type(caught.exception), arguments[wrong[0]][1])

    def test_each_wrong_thing_beside_each_other_one(self):
        for function, arguments in CALLS:
            checked = [at for at, (_, error) in enumerate(arguments) if error is not None]
            for first, second in zip(checked, checked[1:]):
                for one, other in product(wrong_things()[::3], wrong_things()[1::3]):
                    values = [value for value, _ in arguments]
                    values[first], values[second] = one, other
                    with self.assertRaises(arguments[first][1]):
                        function(*values)

    def test_things_are_judged_whatever_they_are(self):
        for function in (is_web, is_standing):
            for thing in wrong_things():
                if thing != (WEB, ()):
                    self.assertIs(function(thing), False)
        for thing in wrong_things():
            for around in (thing, (thing, thing), ((thing,), (thing,)), ((thing,), 0), (("act", thing),), ((), (("act", thing),))):
                self.assertIs(is_script(WEB, WISH, True, around), False)
                self.assertIs(is_lost(RULE, around), False)
                self.assertIs(is_endless(WEB, RULES, around), False)
                self.assertIs(is_strand(WEB, RULES, ((0, 2),), around), False)

    def test_arguments_go_by_position(self):
        for function, arguments in CALLS:
            with self.assertRaises(TypeError):
                function(*[value for value, _ in arguments], None)
            with self.assertRaises(TypeError):
                function(*[value for value, _ in arguments][:-1])


class MethodsTest(unittest.TestCase):
    def check_pairs(self, make, name, error, others):
        """Two wrong arguments at once: the first one is told, and nothing is changed."""
        for one, other in product(wrong_things()[::2], wrong_things()[1::2] + list(others)):
            there = make()
            before = plain(there)
            with self.assertRaises(error):
                getattr(there, name)(one, other)
            self.assertEqual(plain(there), before)

    def test_two_arguments(self):
        for made in (Town, Post):
            self.check_pairs(lambda: made(WEB, RULES), "enter", NoPerson, [None, RULE])
        self.check_pairs(lambda: Post(WEB, RULES), "send", NoPerson, [0])
        for name in ("put", "cut"):
            self.check_pairs(lambda: Register(3), name, NoPerson, [0])

    def test_each_error_changes_nothing(self):
        post = Post(WEB, RULES)
        post.send(0, 2)
        post.act(0)
        before = (journal(post), post.web(), post.letters(), post.notes(), post.rests())
        for name in ("act", "deed", "carry", "land", "settle"):
            for thing in wrong_things():
                with self.assertRaises(CardError):
                    getattr(post, name)(thing)
        for name in ("come", "enter", "send"):
            for thing in wrong_things():
                with self.assertRaises(CardError):
                    getattr(post, name)(0, thing)
        with self.assertRaises(CardError):
            post.land(0)
        self.assertEqual((journal(post), post.web(), post.letters(), post.notes(), post.rests()), before)

    def test_what_was_handed_in_may_be_changed_later(self):
        rows = dict(ROWS)
        rule = Rule(2, rows)
        rows.clear()
        self.assertEqual(rule, RULE)
        rule.table().clear()
        self.assertEqual(rule.table(), ROWS)
        told = {}

        def function(below, above):
            told[below, above] = ((0,), ())
            return told[below, above]

        made = taken(function, 2)
        told.clear()
        self.assertEqual(len(made.table()), 5)


class TogetherTest(unittest.TestCase):
    def test_what_one_module_tells_is_taken_by_the_others(self):
        for web in (WEB, WISH, ring(4), line(4), crowd(4)):
            many = len(web)
            widest = full(web, web)
            row = script(web, widest, False)
            self.assertTrue(is_script(web, widest, False, read_row(row_text(row))))
            self.assertEqual(behind((read_web(web_text(web)), ()), row, False), (widest, ()))
            self.assertIs(leads(web, least_web(web), False), True)
            self.assertIs(are_kin(web, kin(web)[0]), True)
            self.assertEqual(firm(least_web(web), 0), firm(web, 0))
            for x in range(many):
                standing = behind((web, ()), farewell((web, ()), x), False)
                self.assertIs(is_spare(standing, x), True)
            edited = Register(many)
            for u, w in [(u, w) for u, pocket in enumerate(web) for w in pocket]:
                edited.put(u, w)
            self.assertEqual((edited.pieces(), edited.knots()), (pieces(web), knots(web)))

    def test_rules_of_all_kinds_run_everywhere(self):
        kinds = [levelling(2), taken(lambda below, above: levelling(2).table()[below, above], 2), Rule(2, levelling(2).table())]
        web = ((1, 2), (0, 2), (0, 1))
        for rule in kinds:
            rules = (rule, kinds[0], None)
            self.assertEqual(rests(web, rules), rests(web, (kinds[0], kinds[0], None)))
            self.assertEqual(strand(web, rules, ((0, 2),)), strand(web, (kinds[0], kinds[0], None), ((0, 2),)))
            post = Post(web, rules)
            post.send(0, 2)
            post.enter(2, rule)
            post.settle(10000)
            again, many = recovered(web, rules, rule, journal(post))
            self.assertEqual((many, again.log(), again.notes()), (len(post.log()), post.log(), post.notes()))
            self.assertEqual((again.web(), again.letters()), (post.web(), post.letters()))

    def test_a_run_as_told_is_done_in_a_town_a_post_and_a_journal(self):
        web, rules = ((1, 2), (0,), (0, 1)), (TELLS, levelling(2), levelling(2))
        ahead, again = endless(web, rules)
        lines = [(*move,) for move in ahead + again]
        for made in (Town, Post):
            town = made(web, rules)
            for word, *numbers in lines:
                getattr(town, word)(*numbers)
            self.assertEqual(town.log(), lines)
            post, many = recovered(web, rules, None, journal(town))
            self.assertEqual((many, post.web(), post.letters()), (len(lines), town.web(), town.letters()))
            self.assertTrue(is_standing((town.web(), town.letters())))

    def test_long_runs_and_texts(self):
        town = Town(((1,), ()), (TELLS, None))
        town.settle(10000)
        moves = tuple(town.log())
        turn = (("come", 1, 0), ("act", 0)) if moves[-1] == ("act", 0) else (("act", 0), ("come", 1, 0))
        self.assertIs(is_endless(((1,), ()), (TELLS, None), (moves, turn * 5000)), True)
        row = read_row(row_text((("show", 0, 1, 2), ("come", 1, 2)) * 20000))
        self.assertEqual(behind((((1, 2), (), ()), ()), row, False), (((1, 2), (2,), ()), ()))
        self.assertEqual(recovered(((1,), ()), (TELLS, None), None, journal(town))[1], 10000)


if __name__ == "__main__":
    unittest.main()
