"""Promise 15: posts, and of 2, 3, 4 and 5 what holds for them."""

import random
import unittest
from itertools import product

from stillfound.errors import Full, NoDeed, NoLetter, NoNote, NoNumber, NoPerson, NothingDone
from stillfound.post import Post
from stillfound.rules import Rule, levelling
from stillfound.town import Town
from tests import test_town
from tests.helper import (
    ODD_PEOPLE, TELLS, ModelTown, all_told, bare, crowd, drawn_rows, drawn_web, line, model_moves, model_next, odd_things,
    right_deeds, rules_of,
)


def neighbours(many):
    """The web in which everybody holds just the cards of the neighbours."""
    return tuple(tuple(w for w in (u - 1, u + 1) if 0 <= w < many) for u in range(many))


class ModelPost(ModelTown):
    """A post by the words of the point."""

    notes = ()

    def keep(self, item, standing, rows=None):
        """Put down an item with the notes ahead of it."""
        super().keep(item, standing, rows)
        self.past[-1] = (*self.past[-1], self.notes)

    def move_note(self, item, number, note):
        """Put down an item that makes a note another one, or a new one."""
        self.keep(item, self.standing)
        self.notes = self.notes[:number] + (note,) + self.notes[number + 1:]

    def send(self, u, t):
        """As post.send."""
        self.move_note(("send", u, t), len(self.notes), ("with", u, t))
        return len(self.notes) - 1

    def carry(self, number):
        """As post.carry, for a number of a note."""
        place, u, t = self.notes[number]
        w = model_next(self.standing[0], u, t)
        if place == "way" or w is None:
            return False
        self.move_note(("carry", number), number, ("way", w, t))
        return True

    def land(self, number):
        """As post.land, for a note on the way."""
        self.move_note(("land", number), number, ("with", *self.notes[number][1:]))

    def moves(self):
        """All that can be done when the post settles, in the order in which it is."""
        moves = [move for move, _ in model_moves((self.standing, self.notes), self.rows)]
        return sorted(moves, key=lambda move: (["come", "land", "carry", "act"].index(move[0]), move))

    def rests(self):
        """As post.rests."""
        return not self.moves()

    def settle(self, most):
        """As post.settle."""
        many = 0
        while many < most and self.moves():
            word, *numbers = self.moves()[0]
            if word == "come":
                self.does((word, *numbers))
            else:
                {"act": self.act, "carry": self.carry, "land": self.land}[word](*numbers)
            many += 1
        return many

    def back(self):
        """As post.back, where there is something."""
        _, self.standing, self.rows, self.notes = self.past.pop()

    def copy(self):
        """As post.copy."""
        other = ModelPost(self.standing[0], self.rows)
        other.standing, other.past, other.notes = self.standing, list(self.past), self.notes
        return other

    def told(self):
        """All that the post tells."""
        reached = tuple(k for k, note in enumerate(self.notes) if note == ("with", note[2], note[2]))
        return *super().told(), self.notes, reached


class PostMadeTest(test_town.MadeTest):
    made = Post


class PostActTest(test_town.ActTest):
    made = Post


class PostComeTest(test_town.ComeTest):
    made = Post


class PostDeedTest(test_town.DeedTest):
    made = Post


class PostEnterTest(test_town.EnterTest):
    made = Post


class PostSettleTest(test_town.SettleTest):
    made = Post


class PostBackAndCopyTest(test_town.BackAndCopyTest):
    made = Post


class PostDrawnTownsTest(test_town.DrawnTownsTest):
    made = Post


class PostCase(unittest.TestCase):
    def check_refused(self, post, error, call):
        """An error is raised, and nothing changes."""
        before = all_told(post)
        with self.assertRaises(error) as caught:
            call()
        self.assertIs(type(caught.exception), error)
        self.assertEqual(all_told(post), before)


class NotesTest(PostCase):
    def test_a_post_is_a_town(self):
        self.assertTrue(issubclass(Post, Town))
        post = Post(line(3), (None,) * 3)
        self.assertIsInstance(post, Town)
        self.assertEqual((post.notes(), post.delivered()), ((), ()))

    def test_from_the_sending_to_the_landing(self):
        post = Post(line(3), (None,) * 3)
        self.assertEqual(post.send(0, 2), 0)
        self.assertEqual((post.notes(), post.delivered()), ((("with", 0, 2),), ()))
        self.assertIs(post.carry(0), True)
        self.assertEqual((post.notes(), post.delivered()), ((("way", 1, 2),), ()))
        self.assertIsNone(post.land(0))
        self.assertEqual((post.notes(), post.delivered()), ((("with", 1, 2),), ()))
        self.assertIs(post.carry(0), True)
        # On the way to whom it is for it is not delivered yet.
        self.assertEqual((post.notes(), post.delivered()), ((("way", 2, 2),), ()))
        self.assertIsNone(post.land(0))
        self.assertEqual((post.notes(), post.delivered()), ((("with", 2, 2),), (0,)))
        self.assertEqual(
            post.log(), [("send", 0, 2), ("carry", 0), ("land", 0), ("carry", 0), ("land", 0)],
        )
        self.assertEqual((post.web(), post.letters()), (line(3), ()))
        self.assertIs(type(post.notes()), tuple)

    def test_numbers_in_the_order_of_sending(self):
        post = Post(line(3), (None,) * 3)
        sent = [(2, 0), (0, 2), (1, 1), (0, 2), (2, 2)]
        self.assertEqual([post.send(u, t) for u, t in sent], [0, 1, 2, 3, 4])
        self.assertEqual(post.notes(), tuple(("with", u, t) for u, t in sent))
        self.assertEqual(post.delivered(), (2, 4))
        post.carry(1)
        self.assertEqual(post.notes()[1], ("way", 1, 2))
        self.assertEqual(post.send(1, 0), 5)
        self.assertEqual(post.log(), [*[("send", u, t) for u, t in sent], ("carry", 1), ("send", 1, 0)])

    def test_where_a_note_goes_on(self):
        web = (*bare(4), (1, 2, 6, 8), *bare(4))
        nexts = {0: 1, 1: 1, 2: 2, 3: None, 4: None, 5: None, 6: 6, 7: 6, 8: 8}
        for t, w in nexts.items():
            post = Post(web, (None,) * 9)
            post.send(4, t)
            self.assertIs(post.carry(0), w is not None)
            self.assertEqual(post.notes(), ((("with", 4, t) if w is None else ("way", w, t)),))

    def test_where_notes_go_on_by_the_words_of_the_point(self):
        draw = random.Random(60)
        for _ in range(60):
            many = draw.randint(1, 9)
            web = drawn_web(draw, many, draw.choice([0.2, 0.5, 0.8]))
            post = Post(web, (None,) * many)
            for u, t in product(range(many), repeat=2):
                number = post.send(u, t)
                beyond = [w for w in web[u] if (u < w <= t) or (t <= w < u)]
                self.assertIs(post.carry(number), bool(beyond))
                if beyond:
                    w = max(beyond) if u < t else min(beyond)
                    self.assertEqual(post.notes()[number], ("way", w, t))
                    post.land(number)
                    self.assertEqual(post.notes()[number], ("with", w, t))
                else:
                    self.assertEqual(post.notes()[number], ("with", u, t))
                    self.assertIn(("send", u, t), post.log()[-1:])

    def test_a_note_goes_by_cards_that_are_held_then(self):
        post = Post(((1, 2), (), ()), (levelling(2),) * 3)
        post.send(1, 2)
        self.assertIs(post.carry(0), False)
        post.act(0)
        # The letter with the card hasn't come yet.
        self.assertIs(post.carry(0), False)
        post.come(1, 2)
        self.assertIs(post.carry(0), True)
        post.deed(("turn", 1, 2))
        # A note on the way lands, whatever became of the card.
        post.land(0)
        self.assertEqual(post.delivered(), (0,))

    def test_carry_of_what_is_delivered_waits_or_is_on_the_way(self):
        post = Post(((1,), (), ()), (None,) * 3)
        for u, t in ((0, 0), (1, 2), (2, 0), (0, 2), (0, 1)):
            post.send(u, t)
        self.assertIs(post.carry(3), True)
        before = all_told(post)
        for number in (0, 1, 2, 3):
            self.assertIs(post.carry(number), False)
            self.assertEqual(all_told(post), before)
        self.assertIs(post.carry(4), True)
        post.land(4)
        self.assertIs(post.carry(4), False)
        self.assertEqual(post.delivered(), (0, 4))

    def test_land_of_what_is_not_on_the_way(self):
        post = Post(((1,), (), ()), (None,) * 3)
        for u, t in ((0, 1), (0, 0), (1, 2)):
            post.send(u, t)
            self.check_refused(post, NoNote, lambda: post.land(len(post.notes()) - 1))
        post.carry(0)
        post.land(0)
        self.check_refused(post, NoNote, lambda: post.land(0))

    def test_newcomers_and_notes_for_them(self):
        post = Post(((1,), ()), (None, None))
        self.check_refused(post, NoPerson, lambda: post.send(0, 2))
        self.assertEqual(post.enter(1, None), 2)
        self.assertEqual([post.send(0, 2), post.send(2, 0)], [0, 1])
        self.assertEqual(post.settle(100), 4)
        # 1 doesn't hold the card of the newcomer, who holds that of 1: both notes wait there.
        self.assertEqual(post.notes(), (("with", 1, 2), ("with", 1, 0)))
        post.deed(("show", 2, 1, 2))
        self.assertIs(post.carry(0), False)
        post.come(1, 2)
        self.assertEqual(post.settle(100), 2)
        self.assertEqual(post.delivered(), (0,))


class SendErrorsTest(PostCase):
    def test_no_note(self):
        for many in (0, 1, 3):
            post = Post(((1,), ()), (None, None))
            for _ in range(many):
                post.send(0, 1)
            if many:
                post.carry(0)
            for number in [many, many + 1, -many, 10 ** 999, -1, *ODD_PEOPLE, *odd_things()]:
                if number != 0 or type(number) is not int:
                    self.check_refused(post, NoNote, lambda: post.carry(number))
                    self.check_refused(post, NoNote, lambda: post.land(number))
        post = Post(((),), (None,))
        self.check_refused(post, NoNote, lambda: post.carry(0))
        self.check_refused(post, NoNote, lambda: post.land(0))

    def test_no_person(self):
        for many in (1, 2, 9):
            post = Post(crowd(many), (None,) * many)
            for odd in [*ODD_PEOPLE, many, many + 1]:
                self.check_refused(post, NoPerson, lambda: post.send(odd, 0))
                self.check_refused(post, NoPerson, lambda: post.send(0, odd))
                self.check_refused(post, NoPerson, lambda: post.send(odd, odd))
            self.assertEqual(post.send(many - 1, 0), 0)


class RestsTest(PostCase):
    def test_notes_on_the_way(self):
        post = Post(line(2), (None, None))
        self.assertIs(post.rests(), True)
        post.send(0, 1)
        self.assertIs(post.rests(), False)
        post.carry(0)
        self.assertIs(post.rests(), False)
        post.land(0)
        self.assertIs(post.rests(), True)

    def test_notes_that_wait_and_such_as_are_delivered(self):
        post = Post(line(3), (None,) * 3)
        for u, t in ((2, 0), (1, 1), (2, 1)):
            post.send(u, t)
        self.assertIs(post.rests(), True)
        self.assertEqual(post.settle(10), 0)

    def test_letters_and_acts(self):
        post = Post(((1,), ()), (TELLS, None))
        self.assertIs(post.rests(), False)
        post = Post(((1,), ()), (None, None))
        post.deed(("show", 0, 1, 0))
        self.assertIs(post.rests(), False)
        post.send(0, 0)
        post.come(1, 0)
        self.assertIs(post.rests(), True)


class SettlePostTest(PostCase):
    def test_letters_landings_carries_acts(self):
        post = Post(((1, 2), (), (), (2,)), (levelling(3),) * 4)
        post.send(3, 2)
        post.send(3, 2)
        post.carry(1)
        post.deed(("show", 3, 2, 3))
        post.deed(("show", 0, 1, 0))
        done = len(post.log())
        self.assertEqual(post.settle(5), 5)
        self.assertEqual(
            post.log()[done:], [("come", 1, 0), ("come", 2, 3), ("land", 1), ("carry", 0), ("land", 0)],
        )
        self.assertEqual(post.settle(1), 1)
        self.assertEqual(post.log()[-1], ("act", 0))
        self.assertIs(type(post.settle(100)), int)
        self.assertIs(post.rests(), True)

    def test_the_least_note_first(self):
        post = Post(neighbours(3), (None,) * 3)
        for u, t in ((2, 0), (0, 2), (0, 1)):
            post.send(u, t)
        post.carry(2)
        post.carry(1)
        self.assertEqual(post.settle(100), 8)
        self.assertEqual(post.log()[5:], [
            ("land", 1), ("land", 2), ("carry", 0), ("land", 0), ("carry", 0), ("land", 0), ("carry", 1), ("land", 1),
        ])
        self.assertEqual(post.delivered(), (0, 1, 2))

    def test_at_most_so_many_times(self):
        for most in (0, 1, 2, 3, 4, 5, 10000):
            post = Post(line(3), (None,) * 3)
            post.send(0, 2)
            self.assertEqual(post.settle(most), min(most, 4))
            self.assertEqual(len(post.log()), 1 + min(most, 4))
            self.assertIs(post.rests(), most >= 4)

    def test_a_post_that_never_rests(self):
        post = Post(((1,), ()), (TELLS, None))
        post.send(0, 1)
        self.assertEqual(post.settle(10000), 10000)
        self.assertEqual(post.log()[:5], [("send", 0, 1), ("carry", 0), ("land", 0), ("act", 0), ("come", 1, 0)])

    def test_no_number(self):
        post = Post(line(2), (None, None))
        post.send(0, 1)
        for most in [*ODD_PEOPLE, 10001, *odd_things()]:
            self.check_refused(post, NoNumber, lambda: post.settle(most))


class BackAndCopyTest(PostCase):
    def test_back_for_each_kind_of_item(self):
        post = Post(((1, 2), (), ()), (levelling(2), TELLS, None))
        steps = [
            lambda: post.send(0, 2), lambda: post.act(0), lambda: post.come(1, 2), lambda: post.carry(0),
            lambda: post.enter(2, TELLS), lambda: post.send(3, 1), lambda: post.land(0), lambda: post.carry(1),
            lambda: post.deed(("show", 1, 2, 1)), lambda: post.carry(0), lambda: post.act(3), lambda: post.land(0),
            lambda: post.deed(("turn", 0, 1)), lambda: post.land(1), lambda: post.send(1, 1), lambda: post.settle(6),
            lambda: post.carry(1),
        ]
        seen = {}
        for step in steps:
            seen[len(post.log())] = all_told(post)
            step()
        words = [item[0] for item in post.log()]
        for word in ("send", "act", "come", "carry", "enter", "land", "show", "turn"):
            self.assertIn(word, words)
        while post.log():
            log = post.log()
            self.assertIsNone(post.back())
            self.assertEqual(post.log(), log[:-1])
            if len(post.log()) in seen:
                self.assertEqual(all_told(post), seen[len(post.log())])
        self.check_refused(post, NothingDone, post.back)
        self.assertEqual(all_told(post), seen[0])

    def test_numbers_are_given_anew(self):
        post = Post(line(2), (None, None))
        post.send(0, 1)
        post.send(0, 0)
        post.back()
        self.check_refused(post, NoNote, lambda: post.carry(1))
        self.assertEqual(post.send(1, 0), 1)
        self.assertEqual(post.notes(), (("with", 0, 1), ("with", 1, 0)))

    def test_copies_go_on_apart(self):
        post = Post(line(3), (None,) * 3)
        post.send(0, 2)
        post.carry(0)
        other = post.copy()
        self.assertIs(type(other), Post)
        self.assertEqual(all_told(other), all_told(post))
        before = all_told(post)
        other.land(0)
        other.carry(0)
        other.send(1, 1)
        other.enter(0, None)
        self.assertEqual(all_told(post), before)
        after = all_told(other)
        post.back()
        post.back()
        post.send(2, 2)
        self.assertEqual(all_told(other), after)
        while other.log():
            other.back()
        self.assertEqual(all_told(other), all_told(Post(line(3), (None,) * 3)))
        self.check_refused(other, NothingDone, other.back)
        self.assertEqual(post.notes(), (("with", 2, 2),))

    def test_lists_are_new(self):
        post = Post(line(2), (None, None))
        post.send(0, 1)
        post.log().append(("send", 1, 1))
        self.assertEqual(post.log(), [("send", 0, 1)])
        self.assertEqual(len(post.notes()), 1)

    def test_a_long_run_is_taken_back(self):
        post = Post(neighbours(9), (levelling(8),) * 9)
        for _ in range(300):
            post.send(0, 8)
        self.assertEqual(post.settle(10000), 300 * 16)
        self.assertEqual(post.delivered(), tuple(range(300)))
        other = post.copy()
        for _ in range(300 * 16):
            other.back()
        self.assertEqual(other.notes(), (("with", 0, 8),) * 300)
        self.assertEqual(len(post.log()), 300 * 17)


class DrawnPostsTest(PostCase):
    def drawn_note_step(self, draw, post, model):
        """Something drawn about notes is done to both."""
        many, number = len(model.rows), draw.randint(-1, len(model.notes))
        kind = draw.choice(["send", "carry", "carry", "land"])
        if kind == "send":
            u, t = draw.randint(0, many), draw.randint(0, many)
            if max(u, t) < many:
                self.assertEqual(post.send(u, t), model.send(u, t))
            else:
                self.check_refused(post, NoPerson, lambda: post.send(u, t))
        elif not 0 <= number < len(model.notes):
            self.check_refused(post, NoNote, lambda: getattr(post, kind)(number))
        elif kind == "carry":
            self.assertIs(post.carry(number), model.carry(number))
        elif model.notes[number][0] == "way":
            self.assertIsNone(post.land(number))
            model.land(number)
        else:
            self.check_refused(post, NoNote, lambda: post.land(number))

    def drawn_step(self, draw, post, model, lots):
        """One drawn thing is done to both; what is refused changes nothing."""
        many = len(model.rows)
        kind = draw.choice(["note", "note", "note", "act", "come", "deed", "enter", "settle", "back"])
        u = draw.randrange(many)
        if kind == "note":
            self.drawn_note_step(draw, post, model)
        elif kind == "act":
            self.assertIs(post.act(u), model.act(u))
        elif kind == "come":
            letter = draw.choice([(0, 0), *model.standing[1]])
            if model.does(("come", *letter)):
                post.come(*letter)
            else:
                self.check_refused(post, NoLetter, lambda: post.come(*letter))
        elif kind == "deed" and many > 1:
            deed = draw.choice([deed for deed in right_deeds(range(many)) if deed[0] != "come"])
            if model.does(deed):
                self.assertIsNone(post.deed(deed))
            else:
                self.check_refused(post, NoDeed, lambda: post.deed(deed))
        elif kind == "enter" and many < 9:
            lot = draw.choice(lots)
            self.assertEqual(post.enter(u, *rules_of([lot])), many)
            model.enter(u, lot)
        elif kind == "enter":
            self.check_refused(post, Full, lambda: post.enter(u, None))
        elif kind == "settle":
            most = draw.randint(0, 4)
            self.assertEqual(post.settle(most), model.settle(most))
        elif kind == "back" and model.past:
            self.assertIsNone(post.back())
            model.back()

    def test_against_a_second_way(self):
        draw = random.Random(61)
        for _ in range(50):
            many = draw.randint(1, 6)
            web = drawn_web(draw, many, draw.choice([0.2, 0.5]))
            lots = [None, levelling(8).table(), *[drawn_rows(draw, 3, 0.7, 0.8) for _ in range(3)]]
            rows = [draw.choice(lots) for _ in range(many)]
            post, model = Post(web, rules_of(rows)), ModelPost(web, rows)
            for _ in range(40):
                self.drawn_step(draw, post, model, lots)
                self.assertEqual(all_told(post), model.told())
                if draw.random() < 0.1:
                    left = (post, model.told())
                    post, model = post.copy(), model.copy()
                    self.drawn_step(draw, post, model, lots)
                    self.assertEqual(all_told(left[0]), left[1])
            while model.past:
                post.back()
                model.back()
                self.assertEqual(all_told(post), model.told())
            self.check_refused(post, NothingDone, post.back)

    def test_no_note_goes_on_more_often_than_there_are_others_when_it_is_sent(self):
        draw = random.Random(62)
        most_seen = 0
        for _ in range(150):
            many = draw.randint(1, 7)
            rules = tuple(
                draw.choice([None, levelling(8), Rule(3, drawn_rows(draw, 3, 0.8, 0.7))]) for _ in range(many)
            )
            post = Post(drawn_web(draw, many, draw.choice([0.3, 0.6])), rules)
            people = {}
            for _ in range(60):
                size = len(post.web())
                kind = draw.random()
                if kind < 0.15:
                    people[post.send(draw.randrange(size), draw.randrange(size))] = size
                elif kind < 0.2 and size < 9:
                    post.enter(draw.randrange(size), levelling(8))
                elif kind < 0.4:
                    post.act(draw.randrange(size))
                else:
                    post.settle(1)
            for number, size in people.items():
                went = post.log().count(("carry", number))
                self.assertLess(went, size)
                most_seen = max(most_seen, went)
        self.assertGreater(most_seen, 2)

    def test_notes_of_a_levelled_row(self):
        for many in (1, 2, 5, 9):
            web = neighbours(many)
            post = Post(web, (levelling(8),) * many)
            for u, t in product(range(many), repeat=2):
                number = post.send(u, t)
                post.settle(10000)
                self.assertEqual(post.log().count(("carry", number)), abs(u - t))
            self.assertEqual(post.delivered(), tuple(range(many * many)))


if __name__ == "__main__":
    unittest.main()
