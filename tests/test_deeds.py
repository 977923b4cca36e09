"""Promise 7: standings, deeds and rows, and of 2, 3 and 4 what holds for them."""

import random
import unittest
from itertools import product

from stillfound.deeds import behind, fault, found, is_standing
from stillfound.errors import NoRow, NoStanding, NotLet, NoWeb
from tests.helper import (
    Model, all_webs, drawn_standing, links_of, model_found, nested, odd_things, right_deeds, subsets,
)

# 0 holds the cards of 1 and 2, and 1's card is on the way to 2.
START = (((1, 2), (), ()), ((2, 1),))


def wrong_standings():
    """What is no standing, though it looks like one."""
    web = ((1,), (), (0,))
    return [
        (), (web,), web, (web, (), ()), (web, None), (None, ()), ((), web), ((), ()),
        [web, ()], (list(web), ()), ([web], ()), (web, []), (web, {}), (web, ""), (web, 0),
        (((),) * 10, ()), (((0,),), ()), (((1, 1), ()), ()), (((2, 1), (), ()), ()),
        (((True,), ()), ()), (([1], ()), ()), (((3,), (), ()), ()), (((-1,), ()), ()),
        (web, ((1, 0), (0, 1))), (web, ((0, 2), (0, 1))), (web, ((2, 0), (1, 2))),
        (web, ((0, 1), (0, 1))), (web, ((0, 1), (1, 0), (1, 0))),
        (web, ((0, 0),)), (web, ((2, 2),)), (web, ((0, 1), (1, 1))),
        (web, ((0, 3),)), (web, ((3, 0),)), (web, ((0, 10 ** 999),)), (web, ((9, 8),)),
        (web, ((-1, 0),)), (web, ((0, -1),)), (((),), ((0, 1),)), (((),), ((1, 0),)),
        (web, ((True, 0),)), (web, ((0, True),)), (web, ((False, True),)), (web, ((2, False),)),
        (web, ([0, 1],)), (web, [(0, 1)]), (web, ((0,),)), (web, ((),)), (web, ((0, 1, 2),)),
        (web, (0, 1)), (web, ("01",)), (web, (None,)), (web, (("0", "1"),)), (web, ((0, None),)),
        (web, ({0: 1},)), (web, (((0,), (1,)),)), (web, ((0, 1), None)), (web, {(0, 1): 1}),
        (web, ((0, [1]),)), (web, (nested(28, lambda x: (x, 1)),)), (nested(29, lambda x: (x,)), ()),
        (web, nested(29, lambda x: [x])), (web, ((0, 1),) * 40000), (web, (NoWeb(),)),
        (web, ()) + ((),), {0: web, 1: ()},
    ]


def wrong_deeds():
    """What is no deed, though it looks like one."""
    wrong = [
        (), ("show",), ("show", 0, 1), ("show", 0, 1, 2, 3), ("give", 0, 1), ("give", 0, 1, 2, 3),
        ("turn", 0), ("turn", 0, 1, 2), ("come", 0), ("come", 0, 1, 2), ("turn",), ("come",),
        ("Show", 0, 1, 2), ("", 0, 1, 2), ("act", 0), ("act", 0, 1), ("shows", 0, 1, 2),
        ("enter", 0, 1), (0, 1, 2), (0, 0, 1, 2), (None, 0, 1), (None, 0, 1, 2), (["come"], 0, 1),
        (("come",), 0, 1), ({}, 0, 1, 2), ("show ", 0, 1, 2), ("turn\n", 0, 1),
        # v and w are unlike in show, give, come.
        ("show", 0, 1, 1), ("give", 0, 1, 1), ("come", 0, 0), ("come", 5, 5), ("show", 7, 8, 8),
        # u is unlike v in show and give.
        ("show", 0, 0, 1), ("give", 0, 0, 1), ("show", 1, 1, 1), ("give", 2, 2, 2),
        # u is unlike w in give and turn.
        ("give", 0, 1, 0), ("give", 12, 1, 12), ("turn", 0, 0), ("turn", 3, 3),
        "show", "come 0 1", 5, None, True, {}, [], ["come", 0, 1], {"come": 1}, ("come", (0, 1)),
        nested(28, lambda x: ("come", x, 0)), nested(28, lambda x: [x]), (NoWeb(), 0, 1), NoWeb(),
    ]
    good = [("show", 0, 1, 2), ("give", 0, 1, 2), ("turn", 0, 1), ("come", 0, 1)]
    for deed in good:
        wrong.append(list(deed))
        for at in range(1, len(deed)):
            for odd in (True, False, -1, -(10 ** 999), "0", None, (0,), [0], {}, nested(28, lambda x: [x])):
                wrong.append((*deed[:at], odd, *deed[at + 1:]))
    return wrong


def wrong_rows():
    """What is no row."""
    right = ("show", 0, 1, 2)
    rows = [right, ("come", 0, 1), [right], [], "", "come", {}, {right: 1}, None, 0, False]
    for deed in wrong_deeds():
        rows += [(deed,), (right, deed), (deed, ("come", 2, 1)), [deed]]
    return rows + [thing for thing in odd_things() if thing != ()]


class IsStandingTest(unittest.TestCase):
    def test_right_standings(self):
        for many in range(1, 10):
            pairs = tuple((v, w) for v in range(many) for w in range(many) if v != w)
            crowd = tuple(tuple(w for w in range(many) if w != u) for u in range(many))
            for web in (((),) * many, crowd):
                for letters in ((), pairs, pairs[:1], pairs[1:]):
                    self.assertIs(is_standing((web, letters)), True)

    def test_wrong_standings(self):
        for thing in wrong_standings() + odd_things():
            with self.subTest(repr(thing)[:80]):
                self.assertIs(is_standing(thing), False)

    def test_all_letters_of_two_and_three(self):
        """Against the words of the point, for all rows of up to two such letters."""
        letters = [
            (0, 1), (1, 0), (0, 2), (2, 1), (0, 0), (1, 1), (-1, 0), (0, -1), (3, 0), (0, 3),
            (True, 0), (0, True), (0,), (0, 1, 2), [0, 1], "01", None, 0, (),
        ]
        for many in (2, 3):
            pairs = [(v, w) for v in range(many) for w in range(many) if v != w]
            right = set(subsets(pairs))
            for size in (0, 1, 2):
                for lot in product(letters, repeat=size):
                    plain = "True" not in repr(lot) and "[" not in repr(lot)
                    self.assertIs(is_standing((((),) * many, lot)), plain and lot in right)

    def test_no_standing_just_for_these(self):
        for thing in wrong_standings() + odd_things():
            with self.subTest(repr(thing)[:80]):
                with self.assertRaises(NoStanding):
                    found(thing)
                for turning in (True, False):
                    with self.assertRaises(NoStanding):
                        fault(thing, (), turning)
                    with self.assertRaises(NoStanding):
                        behind(thing, (), turning)


class FoundTest(unittest.TestCase):
    def test_letters_count_as_held_by_whom_they_are_to(self):
        self.assertEqual(found((((), ()), ((0, 1),))), ((0, 1), (1,)))
        self.assertEqual(found((((), ()), ((1, 0),))), ((0,), (0, 1)))
        self.assertEqual(found((((1,), (), ()), ())), ((0, 1), (1,), (2,)))
        self.assertEqual(found((((1,), (), ()), ((1, 2),))), ((0, 1, 2), (1, 2), (2,)))
        self.assertEqual(found((((), (), ()), ((0, 1), (1, 2), (2, 0)))), ((0, 1, 2),) * 3)

    def test_letter_with_a_card_that_is_held(self):
        self.assertEqual(found((((1,), ()), ((0, 1),))), ((0, 1), (1,)))

    def test_all_standings_of_two_and_drawn_ones(self):
        draw = random.Random(7)
        standings = [
            (web, letters) for web in all_webs(2) for letters in subsets([(0, 1), (1, 0)])
        ]
        standings += [drawn_standing(draw, draw.randint(1, 9)) for _ in range(300)]
        for web, letters in standings:
            links = links_of(web) | set(letters)
            self.assertEqual(found((web, letters)), model_found(len(web), links))


class DeedTest(unittest.TestCase):
    def let(self, standing, deed, then, turning=True):
        self.assertIsNone(fault(standing, (deed,), turning))
        self.assertEqual(behind(standing, (deed,), turning), then)

    def barred(self, standing, deed, turning=True):
        told = fault(standing, (deed,), turning)
        self.assertEqual(told, 0)
        self.assertIs(type(told), int)
        with self.assertRaises(NotLet) as caught:
            behind(standing, (deed,), turning)
        self.assertEqual(caught.exception.index, 0)
        self.assertIs(type(caught.exception.index), int)

    def test_show(self):
        web = ((1, 2), (), ())
        self.let((web, ()), ("show", 0, 1, 2), (web, ((1, 2),)))
        self.let((web, ()), ("show", 0, 2, 1), (web, ((2, 1),)))

    def test_show_the_own_card(self):
        web = ((1,), ())
        self.let((web, ()), ("show", 0, 1, 0), (web, ((1, 0),)))

    def test_show_needs_the_card_of_whom_it_is_to(self):
        self.barred((((2,), (), ()), ()), ("show", 0, 1, 2))
        self.barred((((), (0,)), ()), ("show", 0, 1, 0))
        self.barred((((2,), (), ()), ((0, 1),)), ("show", 0, 1, 2))

    def test_show_needs_the_card_that_is_shown(self):
        self.barred((((1,), (), ()), ()), ("show", 0, 1, 2))
        self.barred((((1,), (2,), ()), ((0, 2),)), ("show", 0, 1, 2))
        self.barred((((1,), (), (0,)), ()), ("show", 0, 1, 2))

    def test_give(self):
        self.let((((1, 2), (), ()), ()), ("give", 0, 1, 2), (((1,), (), ()), ((1, 2),)))
        self.let((((1, 2), (), ()), ()), ("give", 0, 2, 1), (((2,), (), ()), ((2, 1),)))
        self.let((((), (), (0, 1)), ()), ("give", 2, 1, 0), (((), (), (1,)), ((1, 0),)))

    def test_give_needs_both_cards(self):
        self.barred((((2,), (), ()), ()), ("give", 0, 1, 2))
        self.barred((((1,), (), ()), ()), ("give", 0, 1, 2))
        self.barred((((1,), (2,), ()), ((0, 2),)), ("give", 0, 1, 2))
        self.barred((((2,), (), ()), ((0, 1),)), ("give", 0, 1, 2))

    def test_turn(self):
        self.let((((1,), ()), ()), ("turn", 0, 1), (((), ()), ((1, 0),)))
        self.let((((1, 2), (0,), ()), ()), ("turn", 0, 1), (((2,), (0,), ()), ((1, 0),)))
        self.let((((), (), (1,)), ()), ("turn", 2, 1), (((), (), ()), ((1, 2),)))

    def test_turn_needs_the_card(self):
        self.barred((((2,), (), ()), ()), ("turn", 0, 1))
        self.barred((((), (0,)), ()), ("turn", 0, 1))
        self.barred((((), ()), ((0, 1),)), ("turn", 0, 1))

    def test_turn_is_let_where_turning_is_true_alone(self):
        self.let((((1,), ()), ()), ("turn", 0, 1), (((), ()), ((1, 0),)), True)
        self.barred((((1,), ()), ()), ("turn", 0, 1), False)
        self.barred((((), ()), ()), ("turn", 0, 1), False)

    def test_come(self):
        self.let((((), ()), ((0, 1),)), ("come", 0, 1), (((1,), ()), ()))
        self.let(
            (((), (), (1,)), ((0, 1), (2, 0))), ("come", 2, 0), (((), (), (0, 1)), ((0, 1),))
        )

    def test_come_needs_the_letter(self):
        self.barred((((), ()), ()), ("come", 0, 1))
        self.barred((((), ()), ((1, 0),)), ("come", 0, 1))
        self.barred((((1,), ()), ()), ("come", 0, 1))
        self.barred((((1,), (0,)), ((1, 0),)), ("come", 0, 1))

    def test_letter_that_is_on_the_way_already(self):
        web = ((1, 2), (), ())
        self.let((web, ((1, 2),)), ("show", 0, 1, 2), (web, ((1, 2),)))
        self.let((web, ((1, 2),)), ("give", 0, 1, 2), (((1,), (), ()), ((1, 2),)))
        self.let((((1,), ()), ((1, 0),)), ("turn", 0, 1), (((), ()), ((1, 0),)))

    def test_card_that_is_held_already(self):
        self.let((((1,), ()), ((0, 1),)), ("come", 0, 1), (((1,), ()), ()))
        self.let((((1, 2), (2,), ()), ()), ("show", 0, 1, 2), (((1, 2), (2,), ()), ((1, 2),)))

    def test_letters_stand_ascending(self):
        web = ((1, 2), (), ())
        self.let((web, ((0, 1), (2, 1))), ("show", 0, 1, 2), (web, ((0, 1), (1, 2), (2, 1))))
        self.let((web, ((1, 2), (2, 0))), ("show", 0, 1, 0), (web, ((1, 0), (1, 2), (2, 0))))

    def test_people_who_are_not_there(self):
        standing = (((1, 2), (2,), (0,)), ((0, 1),))
        for far in (3, 9, 10 ** 999):
            deeds = [
                ("show", far, 1, 2), ("show", 0, far, 2), ("show", 0, 1, far), ("show", far, 1, far),
                ("give", far, 1, 2), ("give", 0, far, 2), ("give", 0, 1, far),
                ("turn", far, 1), ("turn", 0, far), ("come", far, 1), ("come", 0, far),
                ("come", far, far + 1), ("show", far, far + 1, far + 2),
            ]
            for deed in deeds:
                for turning in (True, False):
                    with self.subTest(deed=repr(deed)[:40]):
                        self.barred(standing, deed, turning)

    def test_every_deed_in_all_standings_of_two(self):
        for web in all_webs(2):
            for letters in subsets([(0, 1), (1, 0)]):
                for deed in right_deeds(range(3)):
                    self.check_one((web, letters), deed)

    def test_every_deed_in_drawn_standings(self):
        draw = random.Random(1)
        for _ in range(120):
            many = draw.randint(3, 5)
            standing = drawn_standing(draw, many)
            for deed in right_deeds(range(many + 1)):
                self.check_one(standing, deed)

    def check_one(self, standing, deed):
        model = Model(standing)
        if not model.lets(deed):
            self.assertEqual(fault(standing, (deed,), True), 0)
            return
        model.does(deed)
        self.assertIsNone(fault(standing, (deed,), True))
        self.assertEqual(behind(standing, (deed,), True), model.standing())
        self.assertEqual(fault(standing, (deed,), False), 0 if deed[0] == "turn" else None)


class RowTest(unittest.TestCase):
    def test_row_without_deeds(self):
        for turning in (True, False):
            self.assertIsNone(fault(START, (), turning))
            self.assertEqual(behind(START, (), turning), START)

    def test_a_row_goes_deed_by_deed(self):
        row = (("come", 2, 1), ("give", 0, 2, 1), ("come", 2, 1), ("turn", 0, 2), ("come", 2, 0))
        self.assertIsNone(fault(START, row[:2], True))
        self.assertEqual(behind(START, row[:1], True), (((1, 2), (), (1,)), ()))
        self.assertEqual(behind(START, row[:2], True), (((2,), (), (1,)), ((2, 1),)))
        self.assertEqual(behind(START, row[:3], True), (((2,), (), (1,)), ()))
        self.assertEqual(behind(START, row, True), (((), (), (0, 1)), ()))
        self.assertEqual(fault(START, row, False), 3)

    def test_the_first_fault_is_told(self):
        row = (("show", 0, 1, 2), ("come", 1, 2), ("come", 1, 2), ("turn", 1, 0), ("come", 9, 8))
        self.assertEqual(fault(START, row, True), 2)
        with self.assertRaises(NotLet) as caught:
            behind(START, row, True)
        self.assertEqual(caught.exception.index, 2)
        row = (("show", 0, 1, 2), ("turn", 0, 1), ("come", 1, 0), ("turn", 0, 1))
        self.assertEqual(fault(START, row, False), 1)
        self.assertEqual(fault(START, row, True), 3)
        with self.assertRaises(NotLet) as caught:
            behind(START, row, False)
        self.assertEqual(caught.exception.index, 1)
        with self.assertRaises(NotLet) as caught:
            behind(START, row, True)
        self.assertEqual(caught.exception.index, 3)

    def test_fault_at_the_last_deed(self):
        row = (("show", 0, 1, 2),) * 50 + (("come", 2, 0),)
        self.assertEqual(fault(START, row, True), 50)
        self.assertIsNone(fault(START, row[:50], True))

    def test_no_row(self):
        for thing in wrong_rows():
            with self.subTest(repr(thing)[:80]):
                for turning in (True, False):
                    with self.assertRaises(NoRow):
                        fault(START, thing, turning)
                    with self.assertRaises(NoRow):
                        behind(START, thing, turning)

    def test_no_row_ahead_of_not_let(self):
        with self.assertRaises(NoRow):
            fault(START, (("come", 0, 1), ("come", 1, 1)), True)
        with self.assertRaises(NoRow):
            behind(START, (("come", 0, 1), ("come", 1, 1)), True)

    def test_no_row_just_for_these(self):
        for deed in right_deeds(range(5)):
            for turning in (True, False):
                self.assertIn(fault(START, (deed,), turning), (0, None))
        self.assertEqual(fault(START, (("show", 5, 6, 5),), True), 0)

    def test_no_standing_ahead_of_no_row(self):
        for standing in (None, (((1,), ()), [(0, 1)]), wrong_standings()[9], nested(30, lambda x: [x])):
            for row in (None, [], (("come", 0, 0),), nested(30, lambda x: (x,))):
                with self.assertRaises(NoStanding):
                    fault(standing, row, True)
                with self.assertRaises(NoStanding):
                    behind(standing, row, False)

    def test_long_rows(self):
        row = (("show", 0, 1, 2), ("come", 1, 2)) * 11000
        self.assertIsNone(fault(START, row, False))
        self.assertEqual(behind(START, row, False), (((1, 2), (2,), ()), ((2, 1),)))

    def test_nothing_that_is_handed_in_is_changed(self):
        standing = ([[1, 2], [], []], [[2, 1]])
        row = [["show", 0, 1, 2], {"come": [1]}]
        shown = repr((standing, row))
        for call in (fault, behind):
            with self.assertRaises(NoStanding):
                call(standing, row, True)
            with self.assertRaises(NoRow):
                call(START, row, True)
        self.assertEqual(repr((standing, row)), shown)
        behind(START, (("give", 0, 1, 2), ("come", 1, 2)), True)
        with self.assertRaises(NotLet):
            behind(START, (("give", 0, 1, 2), ("give", 0, 1, 2)), True)
        self.assertEqual(START, (((1, 2), (), ()), ((2, 1),)))

    def test_what_is_returned_is_a_standing_again(self):
        then = behind(START, (("show", 0, 1, 2), ("turn", 0, 1)), True)
        self.assertIs(is_standing(then), True)
        self.assertIs(type(then), tuple)
        self.assertEqual({type(part) for part in then + then[0] + then[1]}, {tuple})
        self.assertEqual(found(then), found(behind(then, (), False)))


class DrawnRowsTest(unittest.TestCase):
    def drawn_row(self, draw, many, length):
        return tuple(draw.choice(right_deeds(range(many))) for _ in range(length))

    def test_against_the_model(self):
        draw = random.Random(2)
        for _ in range(1500):
            standing = drawn_standing(draw, draw.randint(2, 4))
            row = self.let_row(draw, standing, draw.randint(0, 6), True)
            row += self.drawn_row(draw, len(standing[0]) + draw.randint(0, 1), draw.randint(0, 2))
            for turning in (True, False):
                self.check_row(standing, row, turning)

    def check_row(self, standing, row, turning):
        model = Model(standing)
        wrong = None
        for index, deed in enumerate(row):
            if not model.lets(deed) or (deed[0] == "turn" and not turning):
                wrong = index
                break
            model.does(deed)
        self.assertEqual(fault(standing, row, turning), wrong)
        if wrong is None:
            self.assertEqual(behind(standing, row, turning), model.standing())
            return
        with self.assertRaises(NotLet) as caught:
            behind(standing, row, turning)
        self.assertEqual(caught.exception.index, wrong)

    def let_row(self, draw, standing, length, turning):
        """A drawn row of deeds that are all let."""
        model = Model(standing)
        row = []
        for _ in range(length):
            let = [
                deed for deed in right_deeds(range(model.many))
                if model.lets(deed) and (turning or deed[0] != "turn")
            ]
            if let:
                row.append(draw.choice(let))
                model.does(row[-1])
        return tuple(row)

    def test_fact_without_turning_nobody_is_lost(self):
        draw = random.Random(3)
        for _ in range(400):
            standing = drawn_standing(draw, draw.randint(2, 6))
            row = self.let_row(draw, standing, 12, False)
            before = found(standing)
            for deed in row:
                self.assertIsNone(fault(standing, (deed,), False))
                standing = behind(standing, (deed,), False)
                self.assertIs(is_standing(standing), True)
                after = found(standing)
                for lot, kept in zip(before, after):
                    self.assertLessEqual(set(lot), set(kept))
                before = after

    def test_by_turning_somebody_may_be_lost(self):
        before = (((1,), ()), ())
        self.assertEqual(found(before), ((0, 1), (1,)))
        self.assertEqual(found(behind(before, (("turn", 0, 1),), True)), ((0,), (0, 1)))


if __name__ == "__main__":
    unittest.main()
