"""Promise 13: vanishing, and of 2, 3 and 4 what holds for it."""

import random
import unittest

from stillfound.errors import NoNumber, NoWeb
from stillfound.vanishing import firm, greatest_firm, weak
from tests.helper import (
    ODD_PEOPLE, all_webs, bare, crowd, drawn_web, line, links_of, model_found, odd_things, ring, subsets, web_of,
    wrong_webs,
)


def losing_lots(web):
    """All lots behind whose vanishing somebody left doesn't find somebody left, fewer ahead of more."""
    told = []
    for lot in subsets(range(len(web))):
        left = [u for u in range(len(web)) if u not in lot]
        links = {(u, w) for u, w in links_of(web) if u in left and w in left}
        seen = model_found(len(web), links)
        if any(w not in seen[u] for u in left for w in left):
            told.append(lot)
    return sorted(told, key=lambda lot: (len(lot), lot))


class VanishingTest(unittest.TestCase):
    def check_web(self, web):
        """All three against a going through of all lots."""
        lots = losing_lots(web)
        for k in range(10):
            fits = [lot for lot in lots if len(lot) <= k]
            told = weak(web, k)
            self.assertEqual(told, fits[0] if fits else None, (web, k))
            self.assertIs(firm(web, k), not fits)
            if fits:
                self.assertIs(type(told), tuple)
        most = max([k for k in range(len(web) + 1) if firm(web, k)], default=-1)
        self.assertEqual(greatest_firm(web), most)
        self.assertIs(type(greatest_firm(web)), int)
        return most

    def test_all_webs_of_up_to_three(self):
        seen = {}
        for many in (1, 2, 3):
            for web in all_webs(many):
                seen[many, self.check_web(web)] = True
        self.assertEqual(sorted(seen), [(1, 1), (2, -1), (2, 2), (3, -1), (3, 0), (3, 3)])

    def test_drawn_webs(self):
        draw = random.Random(90)
        seen = {}
        for many in [4, 5, 6] * 20 + [7] * 8 + [8] * 3 + [9] * 3:
            web = drawn_web(draw, many, draw.choice([0.3, 0.6, 0.8, 0.9]))
            if draw.random() < 0.3:
                web = web_of(many, links_of(web) | links_of(ring(many)))
            seen[self.check_web(web)] = True
        for most in (-1, 0, 1, 2):
            self.assertIn(most, seen)

    def test_known_webs(self):
        for many in range(1, 10):
            self.assertEqual(greatest_firm(crowd(many)), many)
            self.assertIsNone(weak(crowd(many), 9))
            self.assertIs(firm(crowd(many), 9), True)
        for many in range(3, 10):
            self.assertEqual((greatest_firm(ring(many)), weak(ring(many), 9)), (0, (0,)))
            self.assertEqual((firm(ring(many), 0), firm(ring(many), 1)), (True, False))
            self.assertEqual((greatest_firm(line(many)), weak(line(many), 0)), (-1, ()))
            self.assertEqual((greatest_firm(bare(many)), weak(bare(many), 9)), (-1, ()))

    def test_one_or_none_left(self):
        for k in range(10):
            self.assertIs(firm(((),), k), True)
            self.assertIs(firm(((1,), (0,)), k), True)
            self.assertIsNone(weak(((1,), (0,)), k))
        self.assertEqual((greatest_firm(((),)), greatest_firm(((1,), (0,)))), (1, 2))

    def test_cards_to_and_from_go_along(self):
        # 0 and 1 hang together by 2 alone, both ways; 1 holds 0's card for nothing.
        web = ((2,), (0, 2), (0, 1))
        self.assertEqual((weak(web, 0), weak(web, 1), greatest_firm(web)), (None, (2,), 0))
        # Whoever vanishes needn't be found, nor find anybody.
        web = ((1, 2), (0, 2), ())
        self.assertEqual((weak(web, 0), weak(web, 9)), ((), ()))

    def test_fewer_ahead_of_more_and_the_least_of_as_many(self):
        # Two rings that share 3: it alone parts them; so do two others, that are lesser.
        rings = {(u, w) for lot in ((0, 1, 3), (2, 3, 4)) for u in lot for w in lot if u != w}
        self.assertEqual(weak(web_of(5, rings), 2), (3,))
        self.assertEqual(greatest_firm(web_of(5, rings)), 0)
        both = web_of(4, {(u, w) for u in range(4) for w in range(4) if abs(u - w) in (1, 3)})
        self.assertEqual([weak(both, k) for k in range(4)], [None, None, (0, 2), (0, 2)])
        self.assertEqual(greatest_firm(both), 1)

    def test_no_web(self):
        for thing in wrong_webs() + odd_things():
            for call in (
                lambda: firm(thing, 0), lambda: firm(thing, None), lambda: firm(thing, 10), lambda: weak(thing, 0),
                lambda: weak(thing, True), lambda: weak(thing, -1), lambda: greatest_firm(thing),
            ):
                with self.assertRaises(NoWeb):
                    call()

    def test_no_number(self):
        for k in [*ODD_PEOPLE, *odd_things(), 10, 11, -1, 100]:
            for web in (((),), line(3), crowd(9)):
                with self.assertRaises(NoNumber):
                    firm(web, k)
                with self.assertRaises(NoNumber):
                    weak(web, k)


if __name__ == "__main__":
    unittest.main()
