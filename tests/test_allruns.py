"""Promise 12: all runs, and of 2, 3 and 4 what holds for them."""

import random
import unittest

from stillfound.allruns import endless, is_endless, rests, sure
from stillfound.errors import NoRules, NoWeb, TooMany
from stillfound.rules import levelling
from stillfound.town import Town
from tests.helper import (
    HALF_THOUSAND, ONE_TOO_MANY, TELLS, TEN, TWO, all_webs, bare, bent_moves, beside, crowd, drawn_rows, drawn_web, line,
    links_of, model_lasts, model_pieces, model_runs, model_start, model_walk, odd_things, rules_of, web_of, wrong_rules,
    wrong_webs,
)

# 1 gives 0 the card of 2 once; 0 throws away, or shows for ever, what is the only card.
THROWS = {(0, 1): ((), ())}
SHOWS = {(0, 1): ((0,), ((0, -1),))}
GIVES = {(1, 1): ((0,), ((0, 1),))}
MEET = ((1,), (0, 2), ())


def judged_endless(web, rows, thing):
    """What is_endless should tell, by the second model."""
    if type(thing) is not tuple or len(thing) != 2:
        return False
    ahead, again = thing
    state = model_walk(model_start(web), rows, ahead)
    return state is not None and again != () and model_walk(state, rows, again) == state


def model_rests(runs):
    """The list of the webs at which these runs come to rest."""
    return sorted(state[0][0] for state in runs if not runs[state])


def drawn_giving(draw):
    """Drawn rows by which a card or more goes with each act: to somebody, or away."""
    rows = {}
    for shape in ((0, 1), (1, 0), (0, 2), (1, 1), (2, 0)):
        many = sum(shape)
        gone = draw.sample(range(many), draw.randint(1, many))
        sent = {(draw.choice([k for k in range(many) if k != at]), at) for at in gone if many > 1 and draw.random() < 0.7}
        if draw.random() < 0.7:
            rows[shape] = (tuple(k for k in range(many) if k not in gone), tuple(sorted(sent)))
    return rows


def drawn_towns(seed, many):
    """Drawn towns of one to three people, by drawn rules, by levelling, by None, alike and not."""
    draw = random.Random(seed)
    for _ in range(many):
        people = draw.choice([1, 2, 3, 3, 3, 3, 3])
        lots = [drawn_rows(draw, 2, draw.choice([0.3, 0.6, 0.9]), draw.choice([0.5, 0.9])) for _ in range(people)]
        kind = draw.choice(["alike", "drawn", "drawn", "mixed", "levelling", "partly", "giving"])
        if kind == "giving":
            lots = [drawn_giving(draw) for _ in lots]
        if kind == "alike":
            lots = lots[:1] * people
        if kind == "mixed":
            lots = [draw.choice([None, lot]) for lot in lots]
        if kind == "levelling":
            lots = [levelling(draw.choice([1, 2])).table()] * people
        if kind == "partly":
            lots = [draw.choice([levelling(2).table(), None]) for _ in lots]
        yield drawn_web(draw, people, draw.choice([0.4, 0.6, 0.9])), lots


class RunsCase(unittest.TestCase):
    def check_pair(self, web, rows, pair):
        """A told pair is one: led in a Town move by move, each one changing the standing."""
        ahead, again = pair
        self.assertEqual([type(pair), type(ahead), type(again)], [tuple] * 3)
        self.assertGreater(len(again), 0)
        town = Town(web, rules_of(rows))
        standings = [(town.web(), town.letters())]
        for word, *numbers in ahead + again:
            if word == "act":
                self.assertIs(town.act(*numbers), True)
            else:
                self.assertEqual(word, "come")
                town.come(*numbers)
            standings.append((town.web(), town.letters()))
            self.assertNotEqual(standings[-1], standings[-2])
        self.assertEqual(standings[-1], standings[len(ahead)])
        self.assertIs(is_endless(web, rules_of(rows), pair), True)
        self.assertTrue(judged_endless(web, rows, pair))


class DrawnTest(RunsCase):
    def test_against_all_standings(self):
        kinds = {}
        for web, rows in drawn_towns(50, 2000):
            rules = rules_of(rows)
            runs = model_runs(web, rows)
            lasts = model_lasts(runs)
            webs = model_rests(runs)
            with self.subTest(web=web, rows=rows):
                self.assertEqual(rests(web, rules), webs)
                pair = endless(web, rules)
                self.assertEqual(pair is not None, lasts)
                if lasts:
                    self.check_pair(web, rows, pair)
                self.assertEqual(sure(web, rules), webs[0] if len(webs) == 1 and not lasts else None)
            kinds[min(len(webs), 2), lasts] = kinds.get((min(len(webs), 2), lasts), 0) + 1
        # All kinds of towns are among those drawn.
        for kind in ((1, False), (2, False), (0, True), (1, True), (2, True)):
            self.assertGreater(kinds.get(kind, 0), 2, kind)
        self.assertNotIn((0, False), kinds)

    def test_bent_pairs(self):
        draw = random.Random(51)
        right = wrong = 0
        for web, rows in drawn_towns(52, 200):
            rules = rules_of(rows)
            ahead, again = endless(web, rules) or ((("act", 0),), (("act", 0), ("act", 0)))
            things = [(bent, again) for bent in bent_moves(draw, ahead, len(web))]
            things += [(ahead, bent) for bent in bent_moves(draw, again, len(web))]
            things += [(ahead + again, again), (ahead, again + again), (again, ahead), (ahead, ()), ((), again), ((), ())]
            things += [(ahead + again[:1], again[1:] + again[:1]), (ahead, again, again), (ahead,), [ahead, again], ahead]
            things += [(list(ahead), again), (ahead, list(again)), {0: ahead, 1: again}, None, True, (ahead, None)]
            for thing in things:
                told = judged_endless(web, rows, thing)
                self.assertIs(is_endless(web, rules, thing), told, (web, rows, thing))
                right, wrong = right + told, wrong + (not told)
        self.assertGreater(right, 50)
        self.assertGreater(wrong, 1000)

    def test_equal_calls(self):
        for web, rows in drawn_towns(53, 100):
            other = [lot if lot is None else dict(reversed(list(lot.items()))) for lot in rows]
            for function in (rests, endless, sure):
                self.assertEqual(function(web, rules_of(rows)), function(web, rules_of(other)))

    def test_nothing_handed_in_is_changed(self):
        for web, rows in drawn_towns(54, 10):
            rules = rules_of(rows)
            tables = [rule and rule.table() for rule in rules]
            thing = (endless(web, rules) or ((), ()), [[("act", 0)], {"a": [1]}])
            kept = repr(thing)
            rests(web, rules).append("more")
            is_endless(web, rules, thing)
            sure(web, rules)
            self.assertEqual([rule and rule.table() for rule in rules], tables)
            self.assertEqual(repr(thing), kept)
            self.assertNotIn("more", rests(web, rules))


class KnownTest(RunsCase):
    def test_at_rest_at_once(self):
        for web in (bare(1), bare(9), line(4), crowd(9)):
            rules = (None,) * len(web)
            self.assertEqual((rests(web, rules), endless(web, rules), sure(web, rules)), ([web], None, web))
        self.assertEqual(rests(bare(9), (levelling(8),) * 9), [bare(9)])
        self.assertIs(type(rests(bare(2), (None, None))), list)

    def test_one_web_behind_moves(self):
        web = ((1, 2), (), ())
        rules = (levelling(2),) * 3
        self.assertEqual(rests(web, rules), [((1,), (2,), (1,))])
        self.assertEqual((endless(web, rules), sure(web, rules)), (None, ((1,), (2,), (1,))))

    def test_several_webs(self):
        rules = rules_of([THROWS, GIVES, None])
        self.assertEqual(rests(MEET, rules), [((), (0,), ()), ((1, 2), (0,), ())])
        self.assertEqual((endless(MEET, rules), sure(MEET, rules)), (None, None))

    def test_never_at_rest(self):
        web, rules = ((1,), ()), (TELLS, None)
        self.assertEqual((rests(web, rules), sure(web, rules)), ([], None))
        self.check_pair(web, [TELLS.table(), None], endless(web, rules))

    def test_rest_or_go_on_for_ever(self):
        rules = rules_of([SHOWS, GIVES, None])
        self.assertEqual(rests(MEET, rules), [((1, 2), (0,), ())])
        self.assertIsNone(sure(MEET, rules))
        self.check_pair(MEET, [SHOWS, GIVES, None], endless(MEET, rules))

    def test_what_is_endless(self):
        web, rules = ((1,), ()), (TELLS, None)
        turn = (("act", 0), ("come", 1, 0))
        for thing in ((turn, turn), (turn * 2, turn), (turn + turn[:1], turn[1:] + turn[:1]), (turn * 9000, turn * 9000)):
            self.assertIs(is_endless(web, rules, thing), True)
        # At first 1 doesn't hold the card yet, so one turn doesn't lead back there.
        self.assertIs(is_endless(web, rules, ((), turn)), False)
        self.assertIs(is_endless(web, rules, ((), turn * 2)), False)
        self.assertIs(is_endless(web, rules, (turn, ())), False)
        self.assertIs(is_endless(web, rules, ((), ())), False)
        self.assertIs(is_endless(web, rules, (turn[:1], turn[1:] + turn[:1])), False)

    def test_an_act_that_sends_only_what_is_on_the_way_is_no_move(self):
        web, rules = ((1,), ()), (TELLS, None)
        act, come = ("act", 0), ("come", 1, 0)
        self.assertIs(is_endless(web, rules, ((act, come), (act, act, come))), False)
        self.assertIs(is_endless(web, rules, ((act,), (act,))), False)
        self.assertIs(is_endless(web, rules, ((act, act), (come, act))), False)
        self.assertIs(is_endless(web, rules, ((act,), (come, act))), False)
        self.assertIs(is_endless(web, rules, ((act, come, act), (come, act))), True)

    def test_acts_without_change_are_no_moves(self):
        rules = (levelling(2),) * 3
        for web in (line(3), bare(3), ((1,), (0, 2), (1,))):
            self.assertIs(is_endless(web, rules, ((), (("act", 0),))), False)
            self.assertIs(is_endless(web, (None,) * 3, ((), (("act", 0),))), False)

    def test_things_that_are_no_pairs(self):
        web, rules = ((1,), ()), (TELLS, None)
        for thing in odd_things() + wrong_webs() + wrong_rules(2):
            self.assertIs(is_endless(web, rules, thing), False)
            self.assertIs(is_endless(web, rules, ((), thing)), False)
            self.assertIs(is_endless(web, rules, (thing, (("act", 0),))), False)
            self.assertIs(is_endless(web, rules, ((), (thing,))), False)
            self.assertIs(is_endless(web, rules, ((("act", thing),), ())), False)
            self.assertIs(is_endless(web, rules, ((), (("act", thing),))), False)
            self.assertIs(is_endless(web, rules, ((), ((thing, 0),))), False)
        for u in (2, 9, -1, True, 10 ** 999):
            self.assertIs(is_endless(web, rules, ((), (("act", u),))), False)
            self.assertIs(is_endless(web, rules, ((("act", 0),), (("come", u, 0),))), False)
            self.assertIs(is_endless(web, rules, ((("act", 0),), (("come", 1, u),))), False)


class ManyTest(RunsCase):
    def check_too_many(self, web, rules):
        for function in (rests, endless, sure):
            with self.assertRaises(TooMany) as caught:
                function(web, rules)
            self.assertEqual(caught.exception.most, 5000)

    def test_just_as_many_as_are_let(self):
        web, rows = beside(HALF_THOUSAND, TEN)
        runs = model_runs(web, rows)
        self.assertEqual(len(runs), 5000)
        self.assertEqual(rests(web, rules_of(rows)), model_rests(runs))
        pair = endless(web, rules_of(rows))
        self.assertEqual(pair is not None, model_lasts(runs))
        self.check_pair(web, rows, pair)
        self.assertIsNone(sure(web, rules_of(rows)))

    def test_one_more(self):
        web, rows = ONE_TOO_MANY
        self.assertEqual(len(model_runs(web, rows)), 5001)
        self.check_too_many(web, rules_of(rows))

    def test_many_more(self):
        for many in (5, 7, 9):
            self.check_too_many(crowd(many), (levelling(8),) * many)
        web, rows = beside(HALF_THOUSAND, TEN, TWO)
        self.check_too_many(web, rules_of(rows))
        # A round is there at once, or a rest; all the same there are too many.
        web, rows = beside((((1,), ()), [SHOWS, None]), ONE_TOO_MANY)
        self.check_too_many(web, rules_of(rows))

    def test_is_endless_of_a_great_town(self):
        rows = [TELLS.table(), None, *[levelling(8).table()] * 7]
        web = ((1,), (), *[tuple(w for w in range(2, 9) if w != u) for u in range(2, 9)])
        self.check_too_many(web, rules_of(rows))
        turn = (("act", 0), ("come", 1, 0))
        self.assertIs(is_endless(web, rules_of(rows), (turn, turn)), True)
        self.assertIs(is_endless(web, rules_of(rows), ((("act", 2), *turn), turn)), True)
        self.assertIs(is_endless(web, rules_of(rows), (turn, (("act", 2), *turn))), False)
        self.assertIs(is_endless(web, rules_of(rows), None), False)


class ErrorsTest(RunsCase):
    def calls(self, web, rules):
        return [
            lambda: rests(web, rules), lambda: endless(web, rules), lambda: sure(web, rules),
            lambda: is_endless(web, rules, ((), ())), lambda: is_endless(web, rules, None),
        ]

    def test_no_web(self):
        for thing in wrong_webs() + odd_things():
            for rules in ((None, None), None, (), (levelling(2),) * 3):
                for call in self.calls(thing, rules):
                    with self.assertRaises(NoWeb):
                        call()

    def test_no_rules(self):
        for web in (((),), ((1,), ()), crowd(3), crowd(9)):
            for rules in wrong_rules(len(web)):
                for call in self.calls(web, rules):
                    with self.assertRaises(NoRules):
                        call()

    def test_too_many_comes_last(self):
        web, rules = crowd(9), (levelling(8),) * 9
        for call in self.calls((*web, ()), rules)[:3]:
            with self.assertRaises(NoWeb):
                call()
        for call in self.calls(web, (*rules[:8], 0))[:3]:
            with self.assertRaises(NoRules):
                call()


class FactTest(RunsCase):
    def test_levelling_comes_to_rest(self):
        draw = random.Random(55)
        webs = all_webs(2) + all_webs(3) + [drawn_web(draw, 4, 0.4) for _ in range(60)]
        both_ways = 0
        for web in webs:
            many = len(web)
            rules = tuple(levelling(draw.randint(max(1, many - 1), 8)) for _ in web)
            try:
                self.assertIsNone(endless(web, rules))
            except TooMany:
                continue
            self.assertGreaterEqual(len(rests(web, rules)), 1)
            links = links_of(web)
            if len(model_pieces(web)) == 1 and all((w, u) in links for u, w in links):
                row = web_of(many, {(u, w) for u in range(many) for w in (u - 1, u + 1) if 0 <= w < many})
                self.assertEqual(rests(web, rules), [row])
                self.assertEqual(sure(web, rules), row)
                both_ways += 1
        self.assertGreater(both_ways, 4)


if __name__ == "__main__":
    unittest.main()
