"""Promise 17: who is spare, and farewells, and of 2, 3 and 4 what holds for them."""

import random
import unittest

from stillfound.deeds import behind, found
from stillfound.errors import NoPerson, NoStanding, NoWeb
from stillfound.farewells import farewell, is_spare, spare
from tests.helper import (
    ODD_PEOPLE, Model, all_webs, bare, crowd, drawn_standing, drawn_web, line, links_of, model_found, odd_things, ring,
    web_of, wrong_webs,
)


def model_spare(standing, x):
    """Whether x is spare, by the words of the point."""
    web, letters = standing
    links = links_of(web) | set(letters)
    now = model_found(len(web), links)
    then = model_found(len(web), {(u, w) for u, w in links if x not in (u, w)})
    return all(w in then[u] for u in range(len(web)) for w in now[u] if x not in (u, w))


class FarewellsCase(unittest.TestCase):
    def check_farewell(self, standing, x):
        """A told row is one: of shows and comes alone, each of which can be done in its turn."""
        row = farewell(standing, x)
        self.assertIs(type(row), tuple)
        model = Model(standing)
        for deed in row:
            self.assertIn(deed[0], ("show", "come"))
            self.assertTrue(model.lets(deed), (standing, x, row))
            model.does(deed)
        self.assertEqual(behind(standing, row, False), model.standing())
        self.assertTrue(model_spare(model.standing(), x), (standing, x, row))
        self.assertIs(is_spare(model.standing(), x), True)
        self.assertEqual(farewell(standing, x), row)
        # Nobody is lost by it.
        for then, now in zip(found(model.standing()), found(standing)):
            self.assertLessEqual(set(now), set(then))


class SpareTest(FarewellsCase):
    def test_all_webs_of_up_to_three(self):
        for many in (1, 2, 3):
            for web in all_webs(many):
                told = tuple(x for x in range(many) if model_spare((web, ()), x))
                self.assertEqual(spare(web), told)
                for x in range(many):
                    self.assertIs(is_spare((web, ()), x), x in told)

    def test_webs_of_one_to_nine(self):
        draw = random.Random(80)
        sizes = {}
        for many in list(range(1, 10)) * 25:
            web = drawn_web(draw, many, draw.choice([0.1, 0.2, 0.4]))
            if many > 2 and draw.random() < 0.2:
                web = web_of(many, links_of(web) | links_of(ring(many)))
            told = spare(web)
            self.assertEqual(told, tuple(x for x in range(many) if model_spare((web, ()), x)))
            self.assertIs(type(told), tuple)
            sizes[len(told) == many, len(told) == 0] = True
        self.assertEqual(len(sizes), 3)

    def test_drawn_standings(self):
        draw = random.Random(81)
        told = {True: 0, False: 0}
        to_x = {}
        for _ in range(400):
            standing = drawn_standing(draw, draw.randint(1, 9))
            for x in range(len(standing[0])):
                fits = model_spare(standing, x)
                self.assertIs(is_spare(standing, x), fits)
                told[fits] += 1
                to_x[any(v == x for v, _ in standing[1]), any(w == x for _, w in standing[1]), fits] = True
        self.assertGreater(min(told.values()), 100)
        # With and without letters to x, with and without x's card, spare and not.
        self.assertEqual(len(to_x), 8)

    def test_known_webs(self):
        self.assertEqual(spare(line(4)), (0, 3))
        self.assertEqual(spare(ring(4)), ())
        self.assertEqual(spare(ring(2)), (0, 1))
        self.assertEqual(spare(crowd(9)), tuple(range(9)))
        self.assertEqual(spare(bare(9)), tuple(range(9)))
        self.assertEqual(spare(((),)), (0,))
        # Who is found by others alone, or finds others alone, stands on nobody's way.
        self.assertEqual(spare(((1, 2), (2,), ())), (0, 1, 2))

    def test_letters_count(self):
        # 0 finds 2 by way of 1, and by a letter.
        self.assertIs(is_spare((line(3), ()), 1), False)
        self.assertIs(is_spare((line(3), ((0, 2),)), 1), True)
        self.assertIs(is_spare((((), (2,), ()), ((0, 1),)), 1), False)
        self.assertIs(is_spare((((1,), (), ()), ((1, 2),)), 1), False)
        self.assertIs(is_spare((((), (), ()), ((0, 1), (1, 2))), 1), False)
        self.assertIs(is_spare((((), (), ()), ((0, 1), (0, 2), (1, 2))), 1), True)


class FarewellTest(FarewellsCase):
    def test_all_webs_of_up_to_three(self):
        for many in (1, 2, 3):
            for web in all_webs(many):
                for x in range(many):
                    self.check_farewell((web, ()), x)

    def test_drawn_standings(self):
        draw = random.Random(82)
        shown = 0
        for _ in range(250):
            standing = drawn_standing(draw, draw.randint(1, 9))
            for x in range(len(standing[0])):
                self.check_farewell(standing, x)
                shown += len(farewell(standing, x)) > 0
        self.assertGreater(shown, 200)

    def test_somebody_whom_everybody_needs(self):
        for many in range(3, 10):
            for x in (0, many // 2, many - 1):
                others = [u for u in range(many) if u != x]
                star = web_of(many, {(u, x) for u in others} | {(x, u) for u in others})
                self.check_farewell((star, ()), x)
                self.assertNotEqual(farewell((star, ()), x), ())
                self.check_farewell((web_of(many, {(u, x) for u in others}), tuple((x, u) for u in others)), x)
                self.check_farewell((web_of(many, {(x, u) for u in others}), tuple((u, x) for u in others)), x)
                self.check_farewell((bare(many), tuple(sorted([(x, u) for u in others] + [(u, x) for u in others]))), x)
                self.check_farewell((ring(many), ()), x)
                # x holds no card of those who hold x's.
                split = web_of(many, {(u, x) for u in others[::2]} | {(x, u) for u in others[1::2]})
                self.check_farewell((split, ()), x)

    def test_somebody_who_is_spare_already(self):
        for standing in ((line(3), ()), (crowd(3), ((0, 1),)), (bare(3), ((1, 0), (2, 1)))):
            for x in (0, 2):
                self.check_farewell(standing, x)

    def test_one_person_alone(self):
        self.check_farewell((((),), ()), 0)
        self.assertEqual(spare(((),)), (0,))
        self.assertIs(is_spare((((),), ()), 0), True)

    def test_there_is_always_one(self):
        draw = random.Random(83)
        for _ in range(300):
            standing = drawn_standing(draw, draw.randint(2, 6))
            x = draw.randrange(len(standing[0]))
            # As the last one of a company, all others having gone one behind another.
            self.check_farewell(standing, x)
            self.check_farewell(behind(standing, farewell(standing, x), False), (x + 1) % len(standing[0]))


class ErrorsTest(FarewellsCase):
    def wrong_standings(self):
        """What is no standing."""
        # Two of the wrong webs are right standings.
        wrong = [thing for thing in wrong_webs() if thing not in ((((1,), ()), ()), (((),), ()))]
        return odd_things() + wrong + [(web, ()) for web in wrong_webs()] + [
            line(3), (line(3),), (line(3), (), ()), [line(3), ()], (line(3), []), (line(3), ((0, 0),)), (line(3), ((0, 3),)),
            (line(3), ((0, 1), (0, 1))), (line(3), ((1, 0), (0, 1))), (line(3), ((True, 0),)), (line(3), (0, 1)),
            (line(3), ([0, 1],)), (line(3), None), ((), line(3)), (line(3), ((-1, 0),)), (line(3), (("0", 1),)),
        ]

    def test_no_standing(self):
        for thing in self.wrong_standings():
            for x in (0, None, True, 99):
                for function in (is_spare, farewell):
                    with self.assertRaises(NoStanding):
                        function(thing, x)

    def test_no_person(self):
        for many in (1, 2, 9):
            for x in [*ODD_PEOPLE, *odd_things(), many, many + 1]:
                for function in (is_spare, farewell):
                    with self.assertRaises(NoPerson):
                        function((crowd(many), ()), x)

    def test_no_web(self):
        for thing in odd_things() + wrong_webs() + [(line(2), ())]:
            with self.assertRaises(NoWeb):
                spare(thing)


if __name__ == "__main__":
    unittest.main()
