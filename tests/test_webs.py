"""Promise 6: webs, and of 2, 3 and 4 what holds for them."""

import random
import unittest
from itertools import product

from stillfound.errors import NoWeb
from stillfound.webs import finds, is_web, knots, pieces
from tests.helper import (
    all_webs, bare, crowd, drawn_web, line, links_of, model_found, model_lots, nested, odd_things,
    ring, wrong_webs,
)


class IsWebTest(unittest.TestCase):
    def test_right_webs_of_1_to_9(self):
        for many in range(1, 10):
            for web in (bare(many), line(many), crowd(many)):
                self.assertIs(is_web(web), True)
        for many in range(2, 10):
            self.assertIs(is_web(ring(many)), True)

    def test_wrong_webs(self):
        for thing in wrong_webs() + odd_things():
            with self.subTest(repr(thing)[:80]):
                self.assertIs(is_web(thing), False)

    def test_all_pairs_and_triples_of_pockets(self):
        """Against the words of the point, for all that is built of these pockets."""
        pockets = [
            (), (0,), (1,), (2,), (-1,), (0, 1), (1, 0), (0, 2), (1, 2), (2, 1), (1, 1), (0, 1, 2),
            (True,), (False,), (None,), [], [1], ("0",), 0, None,
        ]
        for many in (1, 2, 3):
            right = set(all_webs(many))
            for thing in product(pockets, repeat=many):
                flagless = "True" not in repr(thing) and "False" not in repr(thing)
                listless = "[" not in repr(thing)
                self.assertIs(is_web(thing), flagless and listless and thing in right)

    def test_raise_just_for_these(self):
        for call in (finds, pieces, knots):
            for thing in wrong_webs() + odd_things():
                with self.subTest(repr(thing)[:80]):
                    with self.assertRaises(NoWeb):
                        call(thing)
            for many in range(1, 10):
                call(bare(many))
                call(crowd(many))


class FoundTest(unittest.TestCase):
    def test_without_cards(self):
        for many in range(1, 10):
            alone = tuple((u,) for u in range(many))
            self.assertEqual(finds(bare(many)), alone)
            self.assertEqual(pieces(bare(many)), alone)
            self.assertEqual(knots(bare(many)), alone)

    def test_rows(self):
        for many in range(1, 10):
            self.assertEqual(finds(line(many)), tuple(tuple(range(u, many)) for u in range(many)))
            self.assertEqual(pieces(line(many)), (tuple(range(many)),))
            self.assertEqual(knots(line(many)), tuple((u,) for u in range(many)))

    def test_rings(self):
        for many in range(2, 10):
            everybody = tuple(range(many))
            self.assertEqual(finds(ring(many)), (everybody,) * many)
            self.assertEqual(pieces(ring(many)), (everybody,))
            self.assertEqual(knots(ring(many)), (everybody,))

    def test_several_pieces(self):
        web = ((4,), (3,), (), (), (0,), (2,))
        self.assertEqual(finds(web), ((0, 4), (1, 3), (2,), (3,), (0, 4), (2, 5)))
        self.assertEqual(pieces(web), ((0, 4), (1, 3), (2, 5)))
        self.assertEqual(knots(web), ((0, 4), (1,), (2,), (3,), (5,)))

    def test_piece_by_cards_that_point_apart_and_together(self):
        self.assertEqual(pieces(((1, 2), (), ())), ((0, 1, 2),))
        self.assertEqual(pieces(((2,), (2,), ())), ((0, 1, 2),))
        self.assertEqual(pieces(((2,), (), (), (1, 2))), ((0, 1, 2, 3),))

    def test_knots_one_behind_another(self):
        web = ((2, 5), (3,), (0,), (1, 4), (), (1,))
        self.assertEqual(
            finds(web),
            ((0, 1, 2, 3, 4, 5), (1, 3, 4), (0, 1, 2, 3, 4, 5), (1, 3, 4), (4,), (1, 3, 4, 5)),
        )
        self.assertEqual(pieces(web), ((0, 1, 2, 3, 4, 5),))
        self.assertEqual(knots(web), ((0, 2), (1, 3), (4,), (5,)))

    def test_nine_people(self):
        web = ((8,), (), (), (), (), (), (), (0,), (7,))
        self.assertEqual(finds(web)[0], (0, 7, 8))
        self.assertEqual(knots(web), ((0, 7, 8), (1,), (2,), (3,), (4,), (5,), (6,)))

    def check_against_model(self, web):
        links = links_of(web)
        both = links | {(w, u) for u, w in links}
        self.assertEqual(finds(web), model_found(len(web), links))
        self.assertEqual(pieces(web), model_lots(len(web), both))
        self.assertEqual(knots(web), model_lots(len(web), links))

    def test_all_webs_of_up_to_three(self):
        for many in (1, 2, 3):
            for web in all_webs(many):
                self.assertIs(is_web(web), True)
                self.check_against_model(web)

    def test_drawn_webs(self):
        draw = random.Random(6)
        for _ in range(400):
            self.check_against_model(drawn_web(draw, draw.randint(4, 9), draw.choice([0.1, 0.2, 0.4])))

    def test_kinds_of_values(self):
        for call in (finds, pieces, knots):
            told = call(((1,), (0,), ()))
            self.assertIs(type(told), tuple)
            for lot in told:
                self.assertIs(type(lot), tuple)
                self.assertEqual({type(u) for u in lot}, {int})

    def test_equal_calls_and_arguments_kept(self):
        web = ((1,), [2], {"a": [1]})
        shown = repr(web)
        for call in (finds, pieces, knots):
            with self.assertRaises(NoWeb):
                call(web)
            self.assertEqual(call(((1,), (0,), ())), call(((1,), (0,), ())))
        self.assertIs(is_web(web), False)
        self.assertEqual(repr(web), shown)


if __name__ == "__main__":
    unittest.main()
