"""Promise 8: wishes, and of 2, 3 and 4 what holds for them."""

import random
import unittest
from itertools import product

from stillfound.deeds import behind, fault, found
from stillfound.errors import NoWeb, TooMany
from stillfound.webs import finds, is_web, pieces
from stillfound.wishes import fewest, full, is_script, lack, leads, script
from tests.helper import (
    Model, all_webs, bare, crowd, drawn_web, line, links_of, model_full, model_lack, model_led,
    model_pieces, nested, odd_things, right_deeds, ring, web_of, wrong_webs,
)

FEWER_LINE = ((1,), (2,), ())
MORE_LINE = ((1, 2), (2,), ())


def drawn_wish(draw, web, length, turning):
    """A web to which drawn deeds lead from this one."""
    model = Model((web, ()))
    for _ in range(length):
        let = [
            deed for deed in right_deeds(range(model.many))
            if model.lets(deed) and (turning or deed[0] != "turn")
        ]
        if let:
            # Deeds that throw cards away are rarer than shows, so they are drawn first.
            words = sorted({deed[0] for deed in let})
            word = draw.choice(words)
            model.does(draw.choice([deed for deed in let if deed[0] == word]))
    for letter in sorted(model.letters):
        model.does(("come", *letter))
    return model.standing()[0]


def renamed(draw, web):
    """The same web with the people's numbers drawn anew."""
    names = draw.sample(range(len(web)), len(web))
    return web_of(len(web), {(names[u], names[w]) for u, w in links_of(web)})


class LeadsTest(unittest.TestCase):
    def test_examples_of_the_document(self):
        self.assertIs(leads(MORE_LINE, FEWER_LINE, False), True)
        self.assertIs(leads(((1,), (), ()), ((), (0,), ()), True), True)
        self.assertIs(leads(((1,), (), ()), ((), (0,), ()), False), False)
        self.assertEqual(lack(((2,), (2,), ()), FEWER_LINE), ("card", 0, 1))
        self.assertEqual(full(((1,), (2,), (0,)), ((1,), (2,), (0,))), ((1, 2), (0, 2), (0, 1)))

    def check_all(self, web, wishes):
        """leads, script, lack and fewest against all standings that deeds lead to."""
        for turning in (False, True):
            far = model_led(web, turning)
            for wish in wishes:
                self.assertIs(leads(web, wish, turning), wish in far)
                self.assertEqual(fewest(web, wish, turning), far.get(wish))
                told = script(web, wish, turning)
                self.assertEqual(told is None, wish not in far)
                if told is not None:
                    self.assertEqual(behind((web, ()), told, turning), (wish, ()))
                    self.assertIs(is_script(web, wish, turning, told), True)
                    self.assertGreaterEqual(len(told), far[wish])
                if not turning:
                    self.assertEqual(lack(web, wish) is None, wish in far)

    def test_against_all_standings_of_one_and_two(self):
        for many in (1, 2):
            for web in all_webs(many):
                self.check_all(web, all_webs(many))

    def test_against_all_standings_of_three(self):
        for web in all_webs(3)[::3]:
            self.check_all(web, all_webs(3))

    def test_leads_of_three_for_all_webs(self):
        for web in all_webs(3):
            for turning in (False, True):
                led = [wish for wish in all_webs(3) if leads(web, wish, turning)]
                self.assertEqual(set(led), set(model_led(web, turning)))

    def test_with_turning_just_the_pieces_count(self):
        draw = random.Random(8)
        for _ in range(200):
            many = draw.randint(1, 9)
            web, wish = drawn_web(draw, many, 0.15), drawn_web(draw, many, 0.15)
            same = model_pieces(web) == model_pieces(wish)
            self.assertIs(leads(web, wish, True), same)
            self.assertEqual(script(web, wish, True) is not None, same)

    def test_without_turning_lack_tells(self):
        draw = random.Random(9)
        for _ in range(300):
            many = draw.randint(2, 9)
            wish = drawn_web(draw, many, draw.choice([0.2, 0.3, 0.5]))
            web = web_of(many, [pair for pair in sorted(links_of(wish)) if draw.random() < 0.9])
            bar = model_lack(web, wish)
            self.assertIs(leads(web, wish, False), bar is None)
            self.assertEqual(script(web, wish, False) is None, bar is not None)

    def test_flags(self):
        for turning in (False, True):
            self.assertIs(leads(((),), ((),), turning), True)
            self.assertIs(is_script(((),), ((),), turning, ()), True)


class ScriptTest(unittest.TestCase):
    def check_script(self, web, wish, turning):
        told = script(web, wish, turning)
        self.assertIs(type(told), tuple)
        model = Model((web, ()))
        for deed in told:
            self.assertTrue(model.lets(deed), deed)
            self.assertTrue(turning or deed[0] != "turn")
            model.does(deed)
        self.assertEqual(model.standing(), (wish, ()))
        self.assertIsNone(fault((web, ()), told, turning))
        self.assertIs(is_script(web, wish, turning, told), True)
        self.assertEqual(script(web, wish, turning), told)
        return told

    def test_to_where_drawn_deeds_lead(self):
        draw = random.Random(10)
        for _ in range(150):
            web = drawn_web(draw, draw.randint(2, 9), draw.choice([0.15, 0.3, 0.6]))
            for turning in (False, True):
                wish = drawn_wish(draw, web, draw.randint(0, 40), turning)
                self.assertIs(leads(web, wish, turning), True)
                self.check_script(web, wish, turning)

    def test_long_ways_for_nine(self):
        lots = [line(9), ring(9), crowd(9), tuple((u - 1,) if u else () for u in range(9))]
        draw = random.Random(11)
        lots += [renamed(draw, web) for web in lots]
        for web in lots:
            for wish in lots:
                self.check_script(web, wish, True)
                if leads(web, wish, False):
                    self.check_script(web, wish, False)
        for web, wish in product((ring(9), crowd(9), renamed(draw, ring(9))), repeat=2):
            self.check_script(web, wish, False)
        everybody = tuple(tuple(range(u + 1, 9)) for u in range(9))
        self.check_script(line(9)[:-1] + ((),), line(9), False)
        self.check_script(everybody, line(9), False)

    def test_nobody_is_lost_on_the_way(self):
        draw = random.Random(12)
        for _ in range(60):
            web = drawn_web(draw, draw.randint(2, 8), draw.choice([0.2, 0.4]))
            wish = drawn_wish(draw, web, 30, False)
            standing = (web, ())
            before = found(standing)
            for deed in script(web, wish, False):
                standing = behind(standing, (deed,), False)
                for lot, kept in zip(before, found(standing)):
                    self.assertLessEqual(set(lot), set(kept))
                before = found(standing)
            self.assertEqual(before, finds(wish))

    def test_to_itself(self):
        for many in range(1, 10):
            for web in (bare(many), line(many), crowd(many)):
                for turning in (False, True):
                    self.check_script(web, web, turning)

    def test_no_way(self):
        for turning in (False, True):
            self.assertIsNone(script(((), ()), ((1,), ()), turning))
            self.assertIsNone(script(((1,), ()), ((), ()), turning))
            self.assertIsNone(script(((1,), (), (), ()), ((), (), (3,), ()), turning))
        self.assertIsNone(script(((1,), ()), ((), (0,)), False))
        self.assertIsNotNone(script(((1,), ()), ((), (0,)), True))


class IsScriptTest(unittest.TestCase):
    def model_is(self, web, wish, turning, row):
        model = Model((web, ()))
        for deed in row:
            if not model.lets(deed) or (deed[0] == "turn" and not turning):
                return False
            model.does(deed)
        return model.standing() == (wish, ())

    def test_rows_with_a_deed_changed_left_out_put_in(self):
        draw = random.Random(13)
        told = {True: 0, False: 0}
        for _ in range(120):
            web = drawn_web(draw, draw.randint(2, 4), 0.5)
            for turning in (False, True):
                wish = drawn_wish(draw, web, draw.randint(0, 8), turning)
                row = script(web, wish, turning)
                deeds = right_deeds(range(len(web) + 1))
                for at in range(len(row) + 1):
                    odd = draw.choice(deeds)
                    for other in (
                        row[:at] + row[at + 1:], (*row[:at], odd, *row[at:]),
                        (*row[:at], odd, *row[at + 1:]), row[:at], row[at:], row[:at] + row[at - 1:],
                    ):
                        for flag in (False, True):
                            right = self.model_is(web, wish, flag, other)
                            self.assertIs(is_script(web, wish, flag, other), right)
                            told[right] += 1
        self.assertGreater(min(told.values()), 200)

    def test_letters_left_on_the_way(self):
        web, wish = ((1,), ()), ((1,), (0,))
        self.assertIs(is_script(web, wish, False, (("show", 0, 1, 0), ("come", 1, 0))), True)
        self.assertIs(is_script(web, wish, False, (("show", 0, 1, 0),)), False)
        row = (("show", 0, 1, 0), ("come", 1, 0), ("show", 0, 1, 0))
        self.assertIs(is_script(web, wish, False, row), False)
        self.assertIs(is_script(web, wish, False, (*row, ("come", 1, 0))), True)

    def test_turns(self):
        row = (("turn", 0, 1), ("come", 1, 0))
        self.assertIs(is_script(((1,), ()), ((), (0,)), True, row), True)
        self.assertIs(is_script(((1,), ()), ((), (0,)), False, row), False)

    def test_another_web_behind(self):
        self.assertIs(is_script(MORE_LINE, FEWER_LINE, True, ()), False)
        self.assertIs(is_script(MORE_LINE, MORE_LINE, True, ()), True)
        row = (("give", 0, 1, 2), ("come", 1, 2))
        self.assertIs(is_script(MORE_LINE, FEWER_LINE, False, row), True)
        self.assertIs(is_script(MORE_LINE, MORE_LINE, False, row), False)

    def test_things_that_are_no_rows(self):
        web = ((1,), (0,))
        row = (("show", 0, 1, 0), ("come", 1, 0))
        self.assertIs(is_script(web, web, False, row), True)
        wrong = [
            list(row), [*row], (list(row[0]), row[1]), (row[0], list(row[1])), row[0], row[1],
            (("show", False, True, False), row[1]), (row[0], ("come", True, 0)), (row[0], ("come", 1, False)),
            (*row, ()), (*row, None), (None, *row), (*row, ("come", 0, 0)), (*row, ("come",)),
            (("show", 0, 1, 0, 0), row[1]), (("Show", 0, 1, 0), row[1]), (row, ()), (row,),
            {row[0]: 1, row[1]: 2}, "show 0 1 0\ncome 1 0", ((*row[0], None), row[1]), (*row, [1]),
            (*row, nested(28, lambda x: [x])), (*row, ("show", 0, 1, "0")), NoWeb(), (*row, NoWeb()),
        ]
        for thing in wrong + [thing for thing in odd_things() if thing != ()]:
            with self.subTest(repr(thing)[:60]):
                for turning in (False, True):
                    self.assertIs(is_script(web, web, turning, thing), False)

    def test_long_rows(self):
        web = ((1,), (0,))
        row = (("show", 0, 1, 0), ("come", 1, 0)) * 10000
        self.assertIs(is_script(web, web, False, row), True)
        self.assertIs(is_script(web, web, False, row[:-1]), False)


class FullAndLackTest(unittest.TestCase):
    def check_both(self, web, wish):
        widest = full(web, wish)
        self.assertEqual(widest, model_full(web, wish))
        self.assertEqual(lack(web, wish), model_lack(web, wish))
        if widest is not None:
            self.assertIs(is_web(widest), True)
            self.assertEqual(full(widest, wish), widest)
            self.assertLessEqual(links_of(web), links_of(widest))

    def test_all_of_up_to_three(self):
        for many in (1, 2, 3):
            for web, wish in product(all_webs(many), repeat=2):
                self.check_both(web, wish)

    def test_drawn_ones_of_up_to_nine(self):
        draw = random.Random(14)
        kinds = {None: 0, "found": 0, "card": 0}
        for _ in range(500):
            many = draw.randint(4, 9)
            wish = drawn_web(draw, many, draw.choice([0.15, 0.25, 0.4]))
            web = web_of(many, [pair for pair in sorted(links_of(wish)) if draw.random() < 0.95])
            if draw.random() < 0.3:
                web = drawn_web(draw, many, 0.1)
            self.check_both(web, wish)
            told = lack(web, wish)
            kinds[told and told[0]] += 1
        self.assertGreater(min(kinds.values()), 20)

    def test_knots_are_filled(self):
        for many in range(2, 10):
            self.assertEqual(full(ring(many), ring(many)), crowd(many))
            self.assertEqual(full(ring(many), crowd(many)), crowd(many))
            onwards = tuple(tuple(range(u + 1, many)) for u in range(many))
            self.assertEqual(full(onwards, onwards), onwards)
            # A row shows nobody anybody: whom the last one holds, the one ahead doesn't know.
            self.assertEqual(full(line(many), line(many)), line(many))

    def test_shows_of_the_own_card(self):
        self.assertEqual(full(((1,), ()), ((1,), (0,))), ((1,), (0,)))
        self.assertEqual(full(((1,), ()), ((1,), ())), ((1,), ()))

    def test_shows_of_what_was_shown(self):
        web = ((1, 4), (2,), (3,), (), ())
        wish = ((1, 2, 3, 4), (2, 3, 4), (3, 4), (4,), ())
        self.assertEqual(full(web, wish), ((1, 4), (2, 4), (3, 4), (4,), ()))

    def test_full_is_none_where_too_much_is_found(self):
        self.assertIsNone(full(((1,), ()), ((), ())))
        self.assertIsNone(full(((1,), ()), ((), (0,))))
        self.assertIsNone(full(((1,), (2,), ()), ((1,), (), (0,))))
        self.assertIsNotNone(full(((2,), (), ()), ((1,), (2,), ())))

    def test_lack_tells_the_least_pair(self):
        self.assertEqual(lack(((), (), (0, 1)), ((), (), ())), ("found", 2, 0))
        self.assertEqual(lack(((2,), (), (1,)), ((), (), (1,))), ("found", 0, 1))
        self.assertEqual(lack(((), (0,), (0,)), ((), (), (0,))), ("found", 1, 0))
        self.assertEqual(lack(bare(3), ((), (2,), (0, 1))), ("card", 1, 2))
        self.assertEqual(lack(((1,), (), ()), ((1,), (0,), (0, 1))), ("card", 2, 0))

    def test_found_ahead_of_card(self):
        self.assertEqual(lack(((), (), (1,)), ((1,), (), ())), ("found", 2, 1))
        self.assertEqual(lack(((), (0,)), ((1,), ())), ("found", 1, 0))

    def test_lack_is_none_where_nothing_bars(self):
        self.assertIsNone(lack(MORE_LINE, FEWER_LINE))
        self.assertIsNone(lack(((),), ((),)))

    def test_kinds_of_values(self):
        told = full(((1,), ()), ((1,), (0,)))
        self.assertEqual([type(part) for part in (told, *told)], [tuple] * 3)
        told = lack(((1,), ()), ((), ()))
        self.assertEqual([type(part) for part in (told, *told)], [tuple, str, int, int])
        told = lack(((), ()), ((1,), ()))
        self.assertEqual([type(part) for part in (told, *told)], [tuple, str, int, int])


class FewestTest(unittest.TestCase):
    def test_small_ones(self):
        self.assertEqual(fewest(((),), ((),), False), 0)
        self.assertEqual(fewest(MORE_LINE, MORE_LINE, True), 0)
        self.assertEqual(fewest(((1,), ()), ((1,), (0,)), False), 2)
        self.assertEqual(fewest(((1,), ()), ((), (0,)), True), 2)
        self.assertEqual(fewest(MORE_LINE, FEWER_LINE, False), 2)
        # Where both would give the card away at once, one letter carries it.
        self.assertEqual(fewest(((1, 2), (0, 2), ()), ((1,), (0, 2), ()), False), 2)
        self.assertEqual(fewest(((1, 2), (), ()), ((1,), (2,), ()), False), 2)

    def test_none_where_there_is_no_way(self):
        for turning in (False, True):
            self.assertIsNone(fewest(((), ()), ((1,), ()), turning))
        self.assertIsNone(fewest(((1,), ()), ((), (0,)), False))

    def test_turning_may_be_shorter(self):
        longer = [
            (web, wish) for web, wish in product(all_webs(3)[::2], repeat=2)
            if leads(web, wish, False) and fewest(web, wish, True) < fewest(web, wish, False)
        ]
        self.assertNotEqual(longer, [])

    def test_kind_of_value(self):
        self.assertIs(type(fewest(((1,), ()), ((1,), (0,)), False)), int)

    def test_too_many(self):
        for many in range(4, 10):
            for turning in (False, True):
                with self.assertRaises(TooMany) as caught:
                    fewest(bare(many), line(many), turning)
                self.assertEqual(caught.exception.most, 3)
                self.assertIs(type(caught.exception.most), int)

    def test_no_web_ahead_of_too_many(self):
        for wish in (None, bare(3), bare(5), [(), (), (), ()], bare(10)):
            with self.assertRaises(NoWeb):
                fewest(bare(4), wish, False)


class WrongTest(unittest.TestCase):
    def calls(self, web, wish):
        for turning in (False, True):
            yield lambda: leads(web, wish, turning)
            yield lambda: script(web, wish, turning)
            yield lambda: is_script(web, wish, turning, ())
            yield lambda: is_script(web, wish, turning, None)
            yield lambda: fewest(web, wish, turning)
        yield lambda: full(web, wish)
        yield lambda: lack(web, wish)

    def check_wrong(self, web, wish):
        for call in self.calls(web, wish):
            with self.assertRaises(NoWeb):
                call()

    def test_no_web(self):
        for thing in wrong_webs() + odd_things():
            with self.subTest(repr(thing)[:60]):
                self.check_wrong(thing, ((1,), ()))
                self.check_wrong(((1,), ()), thing)
                self.check_wrong(thing, thing)

    def test_another_number_of_people(self):
        for many, other in product(range(1, 10), repeat=2):
            if many != other:
                self.check_wrong(bare(many), bare(other))
                self.check_wrong(crowd(many), line(other))

    def test_nothing_that_is_handed_in_is_changed(self):
        web, thing = [[1], []], [["come", 1, 0], {"a": [1]}]
        for call in self.calls(web, thing):
            with self.assertRaises(NoWeb):
                call()
        self.assertIs(is_script(((),), ((),), True, thing), False)
        self.assertEqual((web, thing), ([[1], []], [["come", 1, 0], {"a": [1]}]))

    def test_what_is_returned_may_be_passed_on(self):
        draw = random.Random(15)
        for _ in range(50):
            web = drawn_web(draw, 6, 0.3)
            widest = full(web, web)
            self.assertEqual(pieces(widest), pieces(web))
            row = script(web, widest, False)
            self.assertEqual(behind((web, ()), row, False), (widest, ()))
            self.assertEqual(finds(widest), finds(web))


if __name__ == "__main__":
    unittest.main()
