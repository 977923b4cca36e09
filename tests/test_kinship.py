"""Promise 9: kinship, and of 2, 3 and 4 what holds for it."""

import random
import unittest
from itertools import product

from stillfound.errors import NoWeb, TooMany
from stillfound.kinship import are_kin, kin, least_cards, least_web
from stillfound.webs import finds, is_web
from stillfound.wishes import is_script, leads, script
from tests.helper import (
    all_webs, bare, crowd, drawn_web, line, links_of, model_found, model_full, model_led, model_lots,
    odd_things, ring, web_of, wrong_webs,
)

# A ring of three, a ring of two behind it, and somebody behind that; two alone.
STEPS = ((1,), (2,), (0, 3), (4, 5), (3,), (), (), ())


def cards(web):
    """How many cards a web has."""
    return len(links_of(web))


def model_least(web):
    """The fewest cards by the words of the fact."""
    links = links_of(web)
    found = model_found(len(web), links)
    knots = model_lots(len(web), links)
    many = sum(len(knot) for knot in knots if len(knot) > 1)
    finds_knot = {
        (one, other) for one in knots for other in knots if one != other and other[0] in found[one[0]]
    }
    return many + sum(
        not any((one, third) in finds_knot and (third, other) in finds_knot for third in knots)
        for one, other in finds_knot
    )


class KinTest(unittest.TestCase):
    def test_against_all_standings_of_up_to_three(self):
        for many in (1, 2, 3):
            webs = all_webs(many)
            led = {web: set(model_led(web, False)) for web in webs}
            for web in webs:
                lot = [other for other in webs if other in led[web] and web in led[other]]
                self.assertEqual(kin(web), sorted(lot))
                for other in webs:
                    self.assertIs(are_kin(web, other), other in lot)

    def test_some_of_four_against_all_standings(self):
        # Who finds more never finds less again, so no letter is sent by which somebody finds more.
        for web in (line(4), ((1, 2), (3,), (3,), ()), ((2, 3), (2, 3), (), ()), ((1, 2, 3), (), (), ())):
            let = {(u, w) for u, row in enumerate(model_found(4, links_of(web))) for w in row}
            led = sorted(model_led(web, False, let))
            lot = [other for other in led if web in model_led(other, False, let)]
            self.assertEqual(kin(web), lot)
            self.assertEqual([other for other in led if are_kin(web, other)], lot)

    def test_some_of_four_against_their_full_webs(self):
        webs = all_webs(4)
        widest = {web: model_full(web, web) for web in webs}
        for web in (bare(4), crowd(4), ((1,), (0,), (3,), (2,)), ((1,), (0, 2), (3,), (2,)), *webs[5::500]):
            lot = [other for other in webs if widest[other] == widest[web]]
            self.assertEqual(kin(web), sorted(lot))
            for other in webs[::40]:
                self.assertIs(are_kin(web, other), other in lot)

    def test_kin_of_rings_are_all_in_which_all_find_one_another(self):
        everybody = tuple(range(4))
        lot = [web for web in all_webs(4) if finds(web) == (everybody,) * 4]
        self.assertEqual(len(lot), 1606)
        self.assertEqual(kin(ring(4)), sorted(lot))
        self.assertEqual(kin(crowd(4)), sorted(lot))

    def test_alone(self):
        for many in range(1, 5):
            self.assertEqual(kin(bare(many)), [bare(many)])

    def test_small_ones(self):
        self.assertEqual(kin(((1,), ())), [((1,), ())])
        self.assertEqual(kin(((1,), (0,))), [((1,), (0,))])
        self.assertEqual(kin(line(3)), [((1,), (2,), ())])
        self.assertEqual(kin(((1, 2), (2,), ())), [((1, 2), (2,), ())])

    def test_finding_the_same_is_not_enough(self):
        # From the row nobody learns whom the one behind the next one holds.
        self.assertEqual(finds(((1, 2), (2,), ())), finds(line(3)))
        self.assertIs(are_kin(((1, 2), (2,), ()), line(3)), False)
        self.assertIs(are_kin(line(3), ((1, 2), (2,), ())), False)
        self.assertIs(leads(((1, 2), (2,), ()), line(3), False), True)

    def test_are_kin_of_up_to_nine(self):
        draw = random.Random(16)
        told = {True: 0, False: 0}
        for _ in range(300):
            many = draw.randint(2, 9)
            one = drawn_web(draw, many, draw.choice([0.1, 0.3, 0.5]))
            other = draw.choice([least_web(one), model_full(one, one), drawn_web(draw, many, 0.3)])
            links = sorted(links_of(other))
            if draw.random() < 0.5 and links:
                links.remove(draw.choice(links))
                other = web_of(many, links)
            right = model_full(one, one) == model_full(other, other)
            self.assertIs(are_kin(one, other), right)
            self.assertIs(are_kin(other, one), right)
            told[right] += 1
        self.assertGreater(min(told.values()), 40)

    def test_list_is_new(self):
        told = kin(ring(3))
        self.assertIs(type(told), list)
        self.assertEqual({type(web) for web in told}, {tuple})
        kept = list(told)
        told.clear()
        self.assertEqual(kin(ring(3)), kept)

    def test_too_many(self):
        for many in range(5, 10):
            for web in (bare(many), ring(many)):
                with self.assertRaises(TooMany) as caught:
                    kin(web)
                self.assertEqual(caught.exception.most, 4)
        for thing in (bare(10), ((9,),) + bare(8), ((0,),) + bare(4)):
            with self.assertRaises(NoWeb):
                kin(thing)


class LeastTest(unittest.TestCase):
    def check_least(self, web):
        least = least_web(web)
        self.assertIs(is_web(least), True)
        self.assertEqual(finds(least), finds(web))
        self.assertEqual(cards(least), least_cards(web))
        self.assertEqual(least_cards(web), model_least(web))
        self.assertEqual(model_full(web, web), model_full(web, least))
        self.assertLessEqual(links_of(least), links_of(model_full(web, web)))
        self.assertIs(leads(web, least, False), True)
        self.assertIs(is_script(web, least, False, script(web, least, False)), True)
        self.assertEqual(least_web(web), least)

    def test_against_all_webs_of_up_to_four(self):
        for many in (1, 2, 3, 4):
            fewest = {}
            webs = all_webs(many)
            for web in webs:
                fewest[finds(web)] = min(cards(web), fewest.get(finds(web), 99))
            for web in webs:
                self.assertEqual(least_cards(web), fewest[finds(web)])
            for web in webs[::11] if many == 4 else webs:
                self.check_least(web)

    def test_least_web_is_led_to_against_all_standings(self):
        for web in all_webs(3):
            self.assertIn(least_web(web), model_led(web, False))

    def test_knots_in_a_row(self):
        self.check_least(STEPS)
        self.assertEqual(least_cards(STEPS), 3 + 1 + 2 + 1)
        self.assertEqual(least_cards(((1, 2), (0, 2, 3), (3, 4), (2, 4, 5), (5,), (4,))), 2 + 1 + 2 + 1 + 2)
        for many in range(1, 10):
            self.assertEqual(least_cards(line(many)), many - 1)
            self.assertEqual(least_web(line(many)), line(many))
            onwards = tuple(tuple(range(u + 1, many)) for u in range(many))
            self.assertEqual(least_web(onwards), line(many))

    def test_one_knot(self):
        self.assertEqual(least_cards(((),)), 0)
        for many in range(2, 10):
            for web in (ring(many), crowd(many)):
                self.assertEqual(least_cards(web), many)
                self.check_least(web)

    def test_knots_in_a_tree_and_side_by_side(self):
        tree = ((1, 2), (0, 3, 5), (4, 7), (4, 6), (3,), (), (), (8,), (7,))
        self.check_least(tree)
        side = ((1,), (0,), (3,), (4,), (2,), (6, 7), (), (), ())
        self.check_least(side)
        self.assertEqual(least_cards(side), 2 + 3 + 2)

    def test_third_knots_between(self):
        # A square: 0 finds 3 by 1 and by 2; its own card of 3 is needless.
        self.assertEqual(least_cards(((1, 2, 3), (3,), (3,), ())), 4)
        self.assertEqual(least_web(((1, 2, 3), (3,), (3,), ())), ((1, 2), (3,), (3,), ()))
        self.check_least(((1, 2, 3), (3,), (3,), ()))

    def test_drawn_ones_of_up_to_nine(self):
        draw = random.Random(17)
        for _ in range(300):
            self.check_least(drawn_web(draw, draw.randint(4, 9), draw.choice([0.1, 0.2, 0.3])))

    def test_kinds_of_values(self):
        self.assertIs(type(least_cards(line(3))), int)
        told = least_web(ring(3))
        self.assertEqual([type(part) for part in (told, *told)], [tuple] * 4)


class WrongTest(unittest.TestCase):
    def test_no_web(self):
        for thing in wrong_webs() + odd_things():
            with self.subTest(repr(thing)[:60]):
                for call in (least_cards, least_web, kin):
                    with self.assertRaises(NoWeb):
                        call(thing)
                for one, other in ((thing, ring(3)), (ring(3), thing), (thing, thing)):
                    with self.assertRaises(NoWeb):
                        are_kin(one, other)

    def test_another_number_of_people(self):
        for many, other in product(range(1, 10), repeat=2):
            if many != other:
                with self.assertRaises(NoWeb):
                    are_kin(bare(many), bare(other))
                with self.assertRaises(NoWeb):
                    are_kin(crowd(many), line(other))


if __name__ == "__main__":
    unittest.main()
