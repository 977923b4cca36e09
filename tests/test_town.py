"""Promise 11: towns, and of 2, 3, 4 and 5 what holds for them."""

import random
import unittest
from itertools import product

from stillfound.deeds import found
from stillfound.errors import (
    Full, NoDeed, NoLetter, NoNumber, NoPerson, NoRules, NothingDone, NoWeb,
)
from stillfound.rules import Rule, levelling
from stillfound.town import Town
from tests.helper import (
    ODD_PEOPLE, TELLS, ModelTown, bare, crowd, drawn_rows, drawn_web, line, odd_things, right_deeds,
    ring, told, wrong_rules, wrong_webs,
)


class TownCase(unittest.TestCase):
    # What the tests make: whatever is a Town must pass them.
    made = Town

    def check_refused(self, town, error, call):
        """An error is raised, and nothing changes."""
        before = told(town)
        with self.assertRaises(error) as caught:
            call()
        self.assertIs(type(caught.exception), error)
        self.assertEqual(told(town), before)


class MadeTest(TownCase):
    def test_new_town(self):
        for many in range(1, 10):
            for web in (bare(many), line(many), crowd(many)):
                town = self.made(web, (None,) * many)
                self.assertEqual(told(town), (web, (), found((web, ())), True, []))
                self.assertEqual(self.made(web, (levelling(8),) * many).web(), web)

    def test_no_web(self):
        for thing in wrong_webs() + odd_things():
            with self.subTest(repr(thing)[:60]):
                for rules in ((None, None), None, (None,), ()):
                    with self.assertRaises(NoWeb):
                        self.made(thing, rules)

    def test_no_rules(self):
        for many in (1, 2, 3, 9):
            for rules in wrong_rules(many):
                with self.subTest(repr(rules)[:60]):
                    with self.assertRaises(NoRules):
                        self.made(line(many), rules)
        for thing in odd_things():
            if thing != (None,):
                with self.assertRaises(NoRules):
                    self.made(((),), thing)

    def test_rests(self):
        self.assertIs(self.made(((1,), ()), (None, None)).rests(), True)
        self.assertIs(self.made(((1,), ()), (TELLS, None)).rests(), False)
        self.assertIs(self.made(((1,), ()), (None, TELLS)).rests(), True)
        self.assertIs(self.made(((1, 2), (), ()), (levelling(1),) * 3).rests(), True)
        self.assertIs(self.made(((1, 2), (), ()), (levelling(2),) * 3).rests(), False)
        self.assertIs(self.made(((1, 2), (), ()), (None, None, levelling(2))).rests(), True)

    def test_letters_keep_a_town_from_rest(self):
        town = self.made(((1,), ()), (None, None))
        town.deed(("show", 0, 1, 0))
        self.assertIs(town.rests(), False)
        town.come(1, 0)
        self.assertIs(town.rests(), True)

    def test_a_letter_that_an_act_would_send_again(self):
        town = self.made(((1,), ()), (TELLS, None))
        self.assertIs(town.act(0), True)
        self.assertIs(town.act(0), False)
        self.assertIs(town.rests(), False)
        town.come(1, 0)
        # The act would send the letter anew.
        self.assertIs(town.rests(), False)
        self.assertIs(town.act(0), True)


class ActTest(TownCase):
    def test_act_by_a_rule(self):
        town = self.made(((1, 2), (), ()), (TELLS,) * 3)
        self.assertIs(town.act(0), True)
        self.assertEqual(told(town), (((1,), (), ()), ((1, 2),), ((0, 1, 2), (1, 2), (2,)), False, [("act", 0)]))
        self.assertIs(town.act(0), True)
        self.assertEqual(town.letters(), ((1, 0), (1, 2)))
        self.assertEqual(town.log(), [("act", 0), ("act", 0)])

    def test_act_that_changes_nothing(self):
        town = self.made(((1,), (), (0, 1)), (TELLS, TELLS, TELLS))
        self.assertIs(town.act(1), False)
        self.assertIs(town.act(2), False)
        self.assertEqual(town.log(), [])
        town.act(0)
        before = told(town)
        self.assertIs(town.act(0), False)
        self.assertEqual(told(town), before)

    def test_act_without_a_rule_or_a_row(self):
        town = self.made(crowd(3), (None, Rule(8, {}), TELLS))
        for u in range(3):
            self.assertIs(town.act(u), False)
        self.assertEqual(told(town), (crowd(3), (), ((0, 1, 2),) * 3, True, []))

    def test_no_person(self):
        for many in (1, 2, 9):
            town = self.made(line(many), (TELLS,) * many)
            for u in ODD_PEOPLE + [many, many + 1, 9]:
                self.check_refused(town, NoPerson, lambda: town.act(u))

    def test_newcomers_act(self):
        town = self.made(((),), (None,))
        self.check_refused(town, NoPerson, lambda: town.act(1))
        town.enter(0, TELLS)
        self.assertIs(town.act(1), True)
        self.assertEqual(town.letters(), ((0, 1),))


class ComeTest(TownCase):
    def test_a_letter_comes(self):
        town = self.made(((1, 2), (), ()), (None,) * 3)
        town.deed(("show", 0, 2, 1))
        town.deed(("show", 0, 1, 2))
        self.assertEqual(town.letters(), ((1, 2), (2, 1)))
        self.assertIsNone(town.come(2, 1))
        self.assertEqual(town.letters(), ((1, 2),))
        self.assertEqual(town.web(), ((1, 2), (), (1,)))
        self.assertEqual(town.log()[-1], ("come", 2, 1))

    def test_a_card_that_is_held_is_thrown_away(self):
        town = self.made(((1, 2), (2,), ()), (None,) * 3)
        town.deed(("show", 0, 1, 2))
        town.come(1, 2)
        self.assertEqual((town.web(), town.letters()), (((1, 2), (2,), ()), ()))
        self.assertEqual(town.log(), [("show", 0, 1, 2), ("come", 1, 2)])

    def test_no_letter(self):
        town = self.made(((1, 2), (), ()), (None,) * 3)
        self.check_refused(town, NoLetter, lambda: town.come(1, 0))
        town.deed(("show", 0, 1, 0))
        for v, w in product(range(-1, 4), repeat=2):
            if (v, w) != (1, 0):
                self.check_refused(town, NoLetter, lambda: town.come(v, w))
        for odd in ODD_PEOPLE:
            self.check_refused(town, NoLetter, lambda: town.come(1, odd))
            self.check_refused(town, NoLetter, lambda: town.come(odd, 0))
            self.check_refused(town, NoLetter, lambda: town.come(odd, odd))
        town.come(1, 0)
        self.check_refused(town, NoLetter, lambda: town.come(1, 0))


class DeedTest(TownCase):
    def test_each_deed(self):
        town = self.made(((1, 2), (), (0,)), (None,) * 3)
        self.assertIsNone(town.deed(("show", 0, 1, 2)))
        self.assertEqual((town.web(), town.letters()), (((1, 2), (), (0,)), ((1, 2),)))
        self.assertIsNone(town.deed(("give", 0, 2, 1)))
        self.assertEqual((town.web(), town.letters()), (((2,), (), (0,)), ((1, 2), (2, 1))))
        self.assertIsNone(town.deed(("turn", 2, 0)))
        self.assertEqual((town.web(), town.letters()), (((2,), (), ()), ((0, 2), (1, 2), (2, 1))))
        self.assertEqual(town.log(), [("show", 0, 1, 2), ("give", 0, 2, 1), ("turn", 2, 0)])

    def test_a_deed_that_changes_nothing_stands_in_the_log(self):
        town = self.made(((1,), ()), (None, None))
        for many in (1, 2, 3):
            town.deed(("show", 0, 1, 0))
            self.assertEqual(town.log(), [("show", 0, 1, 0)] * many)
        town.back()
        self.assertEqual((town.letters(), len(town.log())), (((1, 0),), 2))
        town.back()
        town.back()
        self.assertEqual((town.letters(), town.log()), ((), []))

    def test_no_deed(self):
        town = self.made(((1, 2), (), (0,)), (None,) * 3)
        town.deed(("show", 0, 1, 2))
        right = {("show", 0, 1, 0), ("show", 0, 1, 2), ("show", 0, 2, 0), ("show", 0, 2, 1), ("give", 0, 1, 2)}
        right |= {("give", 0, 2, 1), ("turn", 0, 1), ("turn", 0, 2), ("turn", 2, 0), ("show", 2, 0, 2)}
        for deed in right_deeds(range(5)):
            if deed in right:
                before = told(town)
                town.deed(deed)
                town.back()
                self.assertEqual(told(town), before)
            else:
                self.check_refused(town, NoDeed, lambda: town.deed(deed))

    def test_letters_dont_come_by_hand(self):
        town = self.made(((1,), ()), (None, None))
        town.deed(("show", 0, 1, 0))
        self.check_refused(town, NoDeed, lambda: town.deed(("come", 1, 0)))

    def test_things_that_are_no_deeds(self):
        town = self.made(crowd(3), (None,) * 3)
        wrong = [
            ["show", 0, 1, 2], ("show", 0, 1), ("show", 0, 1, 2, 0), ("show", 0, 0, 1), ("show", 0, 1, 1),
            ("give", 0, 1, 0), ("give", 0, 0, 1), ("give", 0, 1), ("turn", 0, 0), ("turn", 0), ("turn", 0, 1, 2),
            ("turn", 0, True), ("show", False, 1, 2), ("give", 0, True, 2), ("turn", -1, 0), ("show", 0, -1, 2),
            ("turn", 0, -1), ("turn", 0, -2), ("act", 0), ("enter", 0), ("act", 0, 1), ("Turn", 0, 1), (("turn", 0, 1),),
            ("turn", "0", "1"), ("turn", 0, None), "turn 0 1", ("turn", [0], 1), NoWeb(), TELLS, (TELLS, 0, 1),
            ("turn", 10 ** 999, 0), ("show", 0, 10 ** 999, 0), {"turn": 0}, ("turn", 0, (1,)), (None, 0, 1),
        ]
        for deed in wrong + odd_things():
            self.check_refused(town, NoDeed, lambda: town.deed(deed))


class EnterTest(TownCase):
    def test_up_to_nine(self):
        town = self.made(((),), (None,))
        for number in range(1, 9):
            friend = number // 2
            self.assertEqual(town.enter(friend, TELLS if number % 2 else None), number)
            self.assertEqual(len(town.web()), number + 1)
            self.assertEqual(town.web()[number], (friend,))
            self.assertEqual(town.log()[-1], ("enter", friend))
        before = town.web()
        for friend, rule in product(range(9), (None, TELLS)):
            self.check_refused(town, Full, lambda: town.enter(friend, rule))
        self.assertEqual(town.web(), before)
        town.back()
        self.assertEqual(town.enter(7, None), 8)

    def test_a_full_town_from_the_start(self):
        town = self.made(ring(9), (None,) * 9)
        self.check_refused(town, Full, lambda: town.enter(0, None))

    def test_letters_and_cards_stay(self):
        town = self.made(((1,), (), ()), (None,) * 3)
        town.deed(("show", 0, 1, 0))
        self.assertIs(type(town.enter(1, None)), int)
        self.assertEqual((town.web(), town.letters()), (((1,), (), (), (1,)), ((1, 0),)))

    def test_rule_of_the_newcomer(self):
        town = self.made(((),), (None,))
        town.enter(0, None)
        self.assertIs(town.act(1), False)
        town.back()
        town.enter(0, TELLS)
        self.assertIs(town.act(1), True)

    def test_errors_in_their_order(self):
        odd_rules = [thing for thing in odd_things() if thing is not None] + [(TELLS,), (None,), TELLS.table(), [TELLS]]
        for many in (1, 3, 9):
            town = self.made(line(many), (None,) * many)
            for friend in ODD_PEOPLE + [many, many + 1]:
                for rule in (None, TELLS, 0, False):
                    self.check_refused(town, NoPerson, lambda: town.enter(friend, rule))
            for rule in odd_rules:
                self.check_refused(town, NoRules, lambda: town.enter(0, rule))


class SettleTest(TownCase):
    def test_order(self):
        town = self.made(((1, 2), (), ()), (levelling(2),) * 3)
        self.assertEqual(town.settle(10000), 3)
        self.assertEqual(town.log(), [("act", 0), ("come", 1, 2), ("come", 2, 1)])
        self.assertEqual((town.web(), town.rests()), (((1,), (2,), (1,)), True))

    def test_the_least_letter_and_the_least_person(self):
        town = self.made(((2,), (2,), ()), (None, TELLS, None))
        town.deed(("turn", 0, 2))
        town.deed(("turn", 1, 2))
        self.assertEqual(town.letters(), ((2, 0), (2, 1)))
        town.settle(1)
        self.assertEqual(town.log()[-1], ("come", 2, 0))
        town = self.made(((), (0,), (0,)), (TELLS,) * 3)
        self.assertEqual(town.settle(2), 2)
        self.assertEqual(town.log(), [("act", 1), ("come", 0, 1)])

    def test_at_most_so_many_times(self):
        town = self.made(((1,), ()), (TELLS, None))
        self.assertEqual(town.settle(0), 0)
        self.assertEqual(town.log(), [])
        for most in (1, 2, 3, 7):
            many = len(town.log())
            self.assertEqual(town.settle(most), most)
            self.assertEqual(len(town.log()), many + most)
        self.assertIs(town.rests(), False)
        self.assertEqual(town.settle(10000), 10000)

    def test_a_town_that_rests(self):
        town = self.made(line(4), (levelling(8),) * 4)
        self.assertIs(type(town.settle(10000)), int)
        self.assertEqual(town.settle(10000), 0)
        self.assertEqual(town.settle(0), 0)

    def test_just_as_many_as_are_needed(self):
        for most in (2, 3, 4):
            town = self.made(((1, 2), (), ()), (levelling(2),) * 3)
            self.assertEqual(town.settle(most), min(most, 3))
            self.assertIs(town.rests(), most >= 3)

    def test_levelling_comes_to_the_row(self):
        draw = random.Random(30)
        for _ in range(30):
            many = draw.randint(2, 9)
            web = drawn_web(draw, many, 0.3)
            both = tuple(
                tuple(w for w in range(many) if w in web[u] or u in web[w] or abs(u - w) == 1)
                for u in range(many)
            )
            town = self.made(both, (levelling(max(1, many - 1)),) * many)
            town.settle(10000)
            self.assertIs(town.rests(), True)
            row = tuple(tuple(w for w in (u - 1, u + 1) if 0 <= w < many) for u in range(many))
            self.assertEqual(town.web(), row)

    def test_no_number(self):
        town = self.made(((1,), ()), (TELLS, None))
        for most in ODD_PEOPLE + [10001, -2] + odd_things():
            self.check_refused(town, NoNumber, lambda: town.settle(most))


class BackAndCopyTest(TownCase):
    def test_back_for_each_kind_of_item(self):
        town = self.made(((1, 2), (), ()), (levelling(2), TELLS, None))
        steps = [
            lambda: town.act(0), lambda: town.come(2, 1), lambda: town.deed(("turn", 2, 1)), lambda: town.enter(1, TELLS),
            lambda: town.act(3), lambda: town.deed(("show", 0, 1, 0)), lambda: town.settle(4), lambda: town.enter(3, None),
            lambda: town.deed(("turn", 0, 1)),
        ]
        seen = {}
        for step in steps:
            seen[len(town.log())] = told(town)
            step()
        self.assertGreater(len(town.log()), 8)
        while town.log():
            log = town.log()
            self.assertIsNone(town.back())
            self.assertEqual(town.log(), log[:-1])
            self.assertEqual(told(town), seen.get(len(town.log()), told(town)))
        self.check_refused(town, NothingDone, town.back)
        self.assertEqual(told(town), seen[0])

    def test_nothing_done(self):
        town = self.made(((1,), ()), (TELLS, None))
        self.check_refused(town, NothingDone, town.back)
        town.act(0)
        town.back()
        self.check_refused(town, NothingDone, town.back)
        self.assertIs(town.act(1), False)
        self.check_refused(town, NothingDone, town.back)

    def test_rules_of_newcomers_are_taken_back(self):
        town = self.made(((),), (None,))
        town.enter(0, TELLS)
        town.back()
        self.check_refused(town, NoPerson, lambda: town.act(1))
        town.enter(0, None)
        self.assertIs(town.act(1), False)

    def test_copies_go_on_apart(self):
        town = self.made(((1, 2), (), ()), (levelling(2),) * 3)
        town.act(0)
        other = town.copy()
        self.assertIs(type(other), self.made)
        self.assertEqual(told(other), told(town))
        before = told(town)
        other.come(1, 2)
        other.enter(0, TELLS)
        other.act(3)
        self.assertEqual(told(town), before)
        after = told(other)
        town.back()
        town.deed(("show", 0, 1, 2))
        self.assertEqual(told(other), after)
        for _ in range(4):
            other.back()
        self.assertEqual(told(other), (((1, 2), (), ()), (), found((((1, 2), (), ()), ())), False, []))
        self.check_refused(other, NothingDone, other.back)
        self.assertEqual(town.log(), [("show", 0, 1, 2)])

    def test_copy_of_a_town_with_letters_and_newcomers(self):
        town = self.made(((1,), ()), (TELLS, None))
        town.act(0)
        town.enter(0, TELLS)
        other = town.copy().copy()
        self.assertEqual(told(other), told(town))
        self.assertIs(other.act(2), True)
        self.assertEqual(other.settle(5), town.settle(5))

    def test_lists_are_new(self):
        town = self.made(((1,), ()), (TELLS, None))
        town.act(0)
        log = town.log()
        self.assertEqual([type(log), type(log[0])], [list, tuple])
        log.clear()
        self.assertEqual(town.log(), [("act", 0)])
        town.back()
        self.assertEqual(town.log(), [])


class DrawnTownsTest(TownCase):
    def drawn_step(self, draw, town, model, rows):
        """One drawn thing is done to both; what is refused changes nothing."""
        many = len(model.rows)
        kind = draw.choice(["act", "act", "come", "deed", "deed", "enter", "settle", "back"])
        u, v, w = draw.randint(-1, many), draw.randint(-1, many), draw.randint(-1, many)
        if kind == "act" and 0 <= u < many:
            self.assertIs(town.act(u), model.act(u))
        elif kind == "come" and (v, w) in model.standing[1]:
            self.assertIsNone(town.come(v, w))
            model.does(("come", v, w))
        elif kind == "deed" and many > 1:
            deed = draw.choice([deed for deed in right_deeds(range(many)) if deed[0] != "come"])
            if model.does(deed):
                self.assertIsNone(town.deed(deed))
            else:
                self.check_refused(town, NoDeed, lambda: town.deed(deed))
        elif kind == "enter" and 0 <= u < many < 9:
            lot = draw.choice([None, *rows])
            self.assertEqual(town.enter(u, None if lot is None else Rule(3, lot)), many)
            model.enter(u, lot)
        elif kind == "settle":
            most = draw.randint(0, 3)
            self.assertEqual(town.settle(most), model.settle(most))
        elif kind == "back" and model.past:
            self.assertIsNone(town.back())
            model.back()
        elif kind in ("act", "enter"):
            error = NoPerson if not 0 <= u < many else Full
            self.check_refused(town, error, lambda: town.act(u) if kind == "act" else town.enter(u, None))
        elif kind == "come":
            self.check_refused(town, NoLetter, lambda: town.come(v, w))

    def test_against_a_second_way(self):
        draw = random.Random(31)
        for _ in range(60):
            many = draw.randint(1, 6)
            web = drawn_web(draw, many, draw.choice([0.2, 0.5]))
            rows = [drawn_rows(draw, 3, 0.7, 0.8) for _ in range(many)]
            rules = [draw.choice([None, lot, lot]) for lot in rows]
            town = self.made(web, tuple(None if lot is None else Rule(3, lot) for lot in rules))
            model = ModelTown(web, rules)
            for _ in range(30):
                self.drawn_step(draw, town, model, rows)
                self.assertEqual(told(town), model.told())
                if draw.random() < 0.1:
                    left = (town, model.told())
                    town, model = town.copy(), model.copy()
                    self.drawn_step(draw, town, model, rows)
                    self.assertEqual(told(left[0]), left[1])
            while model.past:
                town.back()
                model.back()
                self.assertEqual(told(town), model.told())
            self.check_refused(town, NothingDone, town.back)

    def test_equal_towns_go_on_equally(self):
        draw = random.Random(32)
        for _ in range(10):
            web = drawn_web(draw, 6, 0.4)
            one, other = self.made(web, (levelling(8),) * 6), self.made(web, (levelling(8),) * 6)
            self.assertEqual(one.settle(40), other.settle(40))
            self.assertEqual(told(one), told(other))


if __name__ == "__main__":
    unittest.main()
