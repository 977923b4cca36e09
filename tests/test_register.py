"""Promise 18: registers, and of 2, 3, 4 and 5 what holds for them."""

import random
import unittest
from itertools import product

from stillfound.errors import Held, NoCard, NoNumber, NoPerson, NothingDone
from stillfound.register import Register
from stillfound.webs import finds, knots, pieces
from tests.helper import ODD_PEOPLE, crowd, drawn_web, line, links_of, model_found, model_lots, odd_things, web_of


class ModelRegister:
    """A register by the words of the point, as a set of cards."""

    def __init__(self, many):
        self.many = many
        self.links = set()
        self.past = []

    def found(self):
        """For each person whom they find: the lists of those who are found grow until none does."""
        told = [{u} for u in range(self.many)]
        grown = True
        while grown:
            grown = False
            for u, w in self.links:
                if not told[w] <= told[u]:
                    told[u] |= told[w]
                    grown = True
        return told

    def edit(self, word, u, w):
        """As register.put and register.cut; returns for whom what they find changed."""
        before = self.found()
        self.links = self.links | {(u, w)} if word == "put" else self.links - {(u, w)}
        self.past.append((word, u, w))
        return tuple(x for x, now in enumerate(self.found()) if now != before[x])

    def back(self):
        """As register.back, where there is something."""
        word, u, w = self.past.pop()
        self.links = self.links | {(u, w)} if word == "cut" else self.links - {(u, w)}

    def copy(self):
        """As register.copy."""
        other = ModelRegister(self.many)
        other.links, other.past = set(self.links), list(self.past)
        return other

    def told(self):
        """All that the register tells."""
        found = self.found()
        both = self.links | {(w, u) for u, w in self.links}
        alike = ModelRegister(self.many)
        alike.links = both
        lots = alike.found()
        return (
            [tuple(w for w in range(self.many) if (u, w) in self.links) for u in range(self.many)],
            [tuple(sorted(row)) for row in found], tuple(sorted(self.links)),
            tuple(sorted({tuple(sorted(row)) for row in lots})),
            tuple(sorted({tuple(w for w in sorted(found[u]) if u in found[w]) for u in range(self.many)})),
            list(self.past),
        )


def told(edited, many):
    """All that a register of so many people tells."""
    return (
        [edited.pocket(u) for u in range(many)], [edited.finds(u) for u in range(many)], edited.cards(),
        edited.pieces(), edited.knots(), edited.log(),
    )


def register_of(web):
    """A register with the cards of a web."""
    edited = Register(len(web))
    for u, w in sorted(links_of(web)):
        edited.put(u, w)
    return edited


class RegisterCase(unittest.TestCase):
    def check_refused(self, edited, many, error, call):
        """An error is raised, and nothing changes."""
        before = told(edited, many)
        with self.assertRaises(error) as caught:
            call()
        self.assertIs(type(caught.exception), error)
        self.assertEqual(told(edited, many), before)


class EditsTest(RegisterCase):
    def test_new_registers(self):
        for many in (1, 2, 9, 10, 200):
            alone = tuple((u,) for u in range(many))
            self.assertEqual(told(Register(many), many), ([()] * many, list(alone), (), alone, alone, []))

    def test_put_and_cut_by_hand(self):
        edited = Register(4)
        self.assertEqual(edited.put(1, 2), (1,))
        self.assertEqual(edited.put(0, 1), (0,))
        self.assertEqual(edited.put(2, 3), (0, 1, 2))
        # Who finds them already finds nobody more.
        self.assertEqual(edited.put(0, 3), ())
        self.assertEqual(edited.put(1, 3), ())
        self.assertEqual(edited.put(3, 1), (2, 3))
        self.assertEqual(edited.finds(0), (0, 1, 2, 3))
        self.assertEqual(edited.pocket(0), (1, 3))
        self.assertEqual(edited.cards(), ((0, 1), (0, 3), (1, 2), (1, 3), (2, 3), (3, 1)))
        self.assertEqual((edited.pieces(), edited.knots()), (((0, 1, 2, 3),), ((0,), (1, 2, 3))))
        self.assertEqual(edited.cut(1, 2), (0, 1, 3))
        self.assertEqual(edited.cut(1, 3), (1,))
        self.assertEqual(edited.cut(0, 1), ())
        self.assertEqual(edited.cut(0, 3), (0,))
        self.assertEqual((edited.pieces(), edited.knots()), (((0,), (1, 2, 3)), ((0,), (1,), (2,), (3,))))
        self.assertEqual(
            edited.log()[-4:], [("cut", 1, 2), ("cut", 1, 3), ("cut", 0, 1), ("cut", 0, 3)],
        )

    def test_as_webs_tell_it(self):
        draw = random.Random(100)
        for many in list(range(1, 10)) * 4:
            web = drawn_web(draw, many, draw.choice([0.1, 0.3, 0.6]))
            edited = register_of(web)
            self.assertEqual(tuple(edited.pocket(u) for u in range(many)), web)
            self.assertEqual(tuple(edited.finds(u) for u in range(many)), finds(web))
            self.assertEqual((edited.pieces(), edited.knots()), (pieces(web), knots(web)))

    def test_kinds(self):
        edited = register_of(line(3))
        for value in (edited.put(0, 2), edited.pocket(0), edited.finds(0), edited.cards(), edited.pieces(), edited.knots()):
            self.assertIs(type(value), tuple)
        self.assertEqual([type(edited.cards()[0]), type(edited.pieces()[0]), type(edited.knots()[0])], [tuple] * 3)
        self.assertEqual([type(edited.log()), type(edited.log()[0])], [list, tuple])
        self.assertIsNone(edited.back())
        self.assertIs(type(edited.copy()), Register)

    def test_what_was_returned_stays(self):
        edited = register_of(crowd(3))
        log, before = edited.log(), told(edited, 3)
        kept = [list(row) if isinstance(row, list) else row for row in before]
        log.clear()
        self.assertEqual(told(edited, 3), before)
        edited.cut(0, 1)
        edited.cut(0, 2)
        edited.back()
        self.assertEqual([list(row) if isinstance(row, list) else row for row in before], kept)

    def test_a_ring_of_two_hundred(self):
        edited = Register(200)
        for u in range(199):
            self.assertEqual(edited.put(u, u + 1), tuple(range(u + 1)))
        self.assertEqual(len(edited.knots()), 200)
        self.assertEqual(edited.put(199, 0), tuple(range(1, 200)))
        self.assertEqual((edited.knots(), edited.pieces()), ((tuple(range(200)),),) * 2)
        self.assertEqual(edited.finds(7), tuple(range(200)))
        self.assertEqual(edited.cut(99, 100), (*range(100), *range(101, 200)))
        self.assertEqual(edited.finds(99), (99,))
        self.assertEqual(edited.pieces(), (tuple(range(200)),))
        self.assertEqual(len(edited.cards()), 199)

    def test_all_cards_of_two_hundred(self):
        edited = Register(200)
        for u, w in product(range(200), repeat=2):
            if u != w and (u < 3 or w < 3):
                edited.put(u, w)
        self.assertEqual(edited.knots(), (tuple(range(200)),))
        self.assertEqual(edited.pocket(0), tuple(range(1, 200)))
        self.assertEqual(edited.cut(5, 0), ())
        self.assertEqual(edited.cut(5, 1), ())
        self.assertEqual(edited.cut(5, 2), (5,))
        self.assertEqual(edited.put(5, 199), (5,))


class DrawnEditsTest(RegisterCase):
    def drawn_step(self, draw, edited, model):
        """One drawn thing is done to both; what is refused changes nothing."""
        many = model.many
        u, w, word = draw.randint(0, many), draw.randint(0, many), draw.choice(["put", "put", "cut"])
        if draw.random() < 0.1 and model.past:
            self.assertIsNone(edited.back())
            model.back()
            return
        if word == "cut" and model.links and draw.random() < 0.8:
            u, w = draw.choice(sorted(model.links))
        edit = edited.put if word == "put" else edited.cut
        if many in (u, w) or u == w:
            self.check_refused(edited, many, NoPerson, lambda: edit(u, w))
        elif ((u, w) in model.links) == (word == "put"):
            self.check_refused(edited, many, Held if word == "put" else NoCard, lambda: edit(u, w))
        else:
            self.assertEqual(edit(u, w), model.edit(word, u, w))

    def test_against_a_second_model(self):
        draw = random.Random(101)
        for many in [1, 2, 3, 4, 5, 6, 8, 12] * 4:
            edited, model = Register(many), ModelRegister(many)
            for _ in range(60):
                self.drawn_step(draw, edited, model)
                self.assertEqual(told(edited, many), model.told())
                if draw.random() < 0.05:
                    left = (edited, model.told())
                    edited, model = edited.copy(), model.copy()
                    self.drawn_step(draw, edited, model)
                    self.assertEqual(told(left[0], many), left[1])
            while model.past:
                edited.back()
                model.back()
                self.assertEqual(told(edited, many), model.told())
            self.check_refused(edited, many, NothingDone, edited.back)

    def test_two_hundred_people(self):
        draw = random.Random(102)
        edited, model = Register(200), ModelRegister(200)
        for step in range(500):
            word, u, w = "put", *draw.sample(range(200), 2)
            if draw.random() < 0.3 and model.links:
                word, (u, w) = "cut", draw.choice(sorted(model.links))
            if ((u, w) in model.links) == (word == "cut"):
                edit = edited.put if word == "put" else edited.cut
                self.assertEqual(edit(u, w), model.edit(word, u, w))
            if step % 100 == 99:
                self.assertEqual(told(edited, 200), model.told())
        for _ in range(150):
            edited.back()
            model.back()
        self.assertEqual(told(edited, 200), model.told())

    def test_who_finds_more_and_who_fewer_by_all_cards(self):
        draw = random.Random(103)
        for _ in range(20):
            many = draw.randint(2, 7)
            web = drawn_web(draw, many, draw.choice([0.2, 0.5]))
            links, before = links_of(web), finds(web)
            for u, w in product(range(many), repeat=2):
                if u != w:
                    edited = register_of(web)
                    now = model_found(many, links ^ {(u, w)})
                    edit = edited.cut if (u, w) in links else edited.put
                    self.assertEqual(edit(u, w), tuple(x for x in range(many) if now[x] != before[x]))
                    changed = web_of(many, links ^ {(u, w)})
                    self.assertEqual(tuple(edited.pocket(x) for x in range(many)), changed)
                    self.assertEqual(edited.knots(), model_lots(many, links_of(changed)))


class BackAndCopyTest(RegisterCase):
    def test_back_through_everything(self):
        draw = random.Random(104)
        edited = Register(10)
        seen = [told(edited, 10)]
        for _ in range(200):
            u, w = draw.sample(range(10), 2)
            if w in edited.pocket(u):
                edited.cut(u, w)
            else:
                edited.put(u, w)
            seen.append(told(edited, 10))
        while len(seen) > 1:
            self.assertEqual(told(edited, 10), seen.pop())
            edited.back()
        self.assertEqual(told(edited, 10), seen[0])
        for _ in range(2):
            self.check_refused(edited, 10, NothingDone, edited.back)

    def test_what_is_taken_back_can_be_done_anew(self):
        edited = Register(2)
        edited.put(0, 1)
        edited.back()
        self.check_refused(edited, 2, NoCard, lambda: edited.cut(0, 1))
        self.assertEqual(edited.put(0, 1), (0,))
        edited.cut(0, 1)
        edited.back()
        self.check_refused(edited, 2, Held, lambda: edited.put(0, 1))
        self.assertEqual(edited.log(), [("put", 0, 1)])

    def test_copies_go_on_apart(self):
        edited = register_of(line(4))
        other = edited.copy()
        before = told(edited, 4)
        self.assertEqual(told(other, 4), before)
        other.put(3, 0)
        other.cut(0, 1)
        self.assertEqual(told(edited, 4), before)
        after = told(other, 4)
        edited.back()
        edited.back()
        edited.put(0, 3)
        self.assertEqual(told(other, 4), after)
        for _ in range(5):
            other.back()
        self.check_refused(other, 4, NothingDone, other.back)
        self.assertEqual(edited.cards(), ((0, 1), (0, 3)))


class ErrorsTest(RegisterCase):
    def test_no_number(self):
        for many in [0, 201, 1000, -200, "1", "200", *[thing for thing in ODD_PEOPLE if thing != 0], *odd_things()]:
            with self.assertRaises(NoNumber):
                Register(many)

    def test_no_person(self):
        for many in (1, 2, 5):
            edited = register_of(line(many))
            for odd in [*ODD_PEOPLE, *odd_things(), many, many + 1, 200]:
                for call in (
                    lambda: edited.put(odd, 0), lambda: edited.put(0, odd), lambda: edited.put(odd, odd),
                    lambda: edited.cut(odd, 0), lambda: edited.cut(0, odd), lambda: edited.cut(odd, odd),
                    lambda: edited.pocket(odd), lambda: edited.finds(odd), lambda: edited.put(many - 1, odd),
                    lambda: edited.cut(many - 1, odd),
                ):
                    self.check_refused(edited, many, NoPerson, call)
            for u in range(many):
                self.check_refused(edited, many, NoPerson, lambda: edited.put(u, u))
                self.check_refused(edited, many, NoPerson, lambda: edited.cut(u, u))

    def test_held_and_no_card(self):
        edited = register_of(line(3))
        for u, w in product(range(3), repeat=2):
            if (u, w) in edited.cards():
                self.check_refused(edited, 3, Held, lambda: edited.put(u, w))
            elif u != w:
                self.check_refused(edited, 3, NoCard, lambda: edited.cut(u, w))


if __name__ == "__main__":
    unittest.main()
