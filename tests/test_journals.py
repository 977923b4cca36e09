"""Promise 19: journals, and of 2, 3, 4 and 5 what holds for them."""

import random
import re
import unittest

from stillfound.errors import CardError, NoRules, NothingDone, NoText, NoWeb
from stillfound.journals import journal, recovered
from stillfound.post import Post
from stillfound.rules import Rule, levelling
from stillfound.town import Town
from tests.helper import (
    TELLS, all_told, drawn_rows, drawn_web, line, odd_things, right_deeds, told, wrong_rules, wrong_webs,
)

WORDS = {"act": 1, "come": 2, "show": 3, "give": 3, "turn": 2, "enter": 1, "send": 2, "carry": 1, "land": 1}

WEB, RULES = ((1, 2), (), ()), (levelling(2), None, None)

# What is done in a town of this web and these rules, and the lines of its journal.
DONE = [
    ("act 0 #1", lambda town: town.act(0)),
    ("come 1 2 #7", lambda town: town.come(1, 2)),
    ("come 2 1 #7", lambda town: town.come(2, 1)),
    ("show 1 2 1 #12", lambda town: town.deed(("show", 1, 2, 1))),
    ("enter 2 #7", lambda town: town.enter(2, None)),
    ("come 2 1 #10", lambda town: town.come(2, 1)),
    ("show 0 1 0 #9", lambda town: town.deed(("show", 0, 1, 0))),
    ("come 1 0 #9", lambda town: town.come(1, 0)),
    ("give 1 0 2 #16", lambda town: town.deed(("give", 1, 0, 2))),
    ("turn 2 1 #14", lambda town: town.deed(("turn", 2, 1))),
]
DONE_BY_POST = DONE + [
    ("send 3 2 #18", lambda post: post.send(3, 2)),
    ("carry 0 #12", lambda post: post.carry(0)),
    ("land 0 #13", lambda post: post.land(0)),
    ("send 0 1 #16", lambda post: post.send(0, 1)),
    ("carry 1 #16", lambda post: post.carry(1)),
]


def text_of(lines):
    """The text of lines, each with its line feed."""
    return "".join(line + "\n" for line in lines)


def checked(number, *item):
    """The line of an item with the right check."""
    word, *numbers = item
    check = number
    for place, k in enumerate(numbers):
        check += k * (place + 1)
    return " ".join([word, *map(str, numbers), f"#{check}"])


def does(post, item, guide):
    """Do an item of a log, in a copy first; returns whether it can be done."""
    word, *numbers = item
    for there in (post.copy(), post):
        try:
            if word == "enter":
                there.enter(*numbers, guide)
            elif word in ("show", "give", "turn"):
                there.deed(item)
            elif getattr(there, word)(*numbers) is False:
                return False
        except CardError:
            return False
    return True


def model_recovered(web, rules, guide, text):
    """What recovered should tell, its lines being read a second way."""
    post, many = Post(web, rules), 0
    for row in re.findall(r"([^\n]*)\n", text):
        fits = re.fullmatch(r"([a-z]+)((?: (?:0|[1-9][0-9]*))+) #(0|[1-9][0-9]*)", row)
        if not fits or WORDS.get(fits[1]) != len(fits[2].split()):
            break
        item = (fits[1], *map(int, fits[2].split()))
        if row != checked(many + 1, *item) or not does(post, item, guide):
            break
        many += 1
    return post, many


def drawn_post(draw, guide, notes=True):
    """A town or post with a drawn run in which all newcomers go by guide, with its web and rules."""
    many = draw.randint(1, 5)
    web = drawn_web(draw, many, draw.choice([0.3, 0.6]))
    lots = [None, levelling(8), TELLS, *[Rule(3, drawn_rows(draw, 3, 0.7, 0.8)) for _ in range(2)]]
    rules = tuple(draw.choice(lots) for _ in range(many))
    post = (Post if notes else Town)(web, rules)
    for _ in range(draw.randint(0, 40)):
        size = len(post.web())
        kind = draw.choice(["act", "come", "deed", "enter", "back", "settle"] + ["send", "carry", "land"] * notes)
        u, t = draw.randrange(size), draw.randrange(size)
        try:
            if kind == "act":
                post.act(u)
            elif kind == "come":
                post.come(*draw.choice(post.letters() or [(0, 0)]))
            elif kind == "deed":
                post.deed(draw.choice(right_deeds(range(max(2, size)))))
            elif kind == "enter":
                post.enter(u, guide)
            elif kind == "back":
                post.back()
            elif kind == "settle":
                post.settle(draw.randint(0, 3))
            elif kind == "send":
                post.send(u, t)
            else:
                getattr(post, kind)(draw.randrange(len(post.notes()) or 1))
        except CardError:
            pass
    return post, web, rules


def shown(town):
    """All that a town tells; of a Town what a Post without notes would."""
    return all_told(town) if isinstance(town, Post) else (*told(town), (), ())


def bent_texts(draw, text):
    """What stands near a journal."""
    lines = text.split("\n")[:-1]
    bent = [text + row + "\n" for row in ("", "act 0", "act 0 #", checked(len(lines) + 1, "act", 99))]
    for at in range(len(lines)):
        bent.append(text_of(lines[:at] + lines[at + 1:]))
        bent.append(text_of(lines[:at] + lines[at:at + 1] * 2 + lines[at + 1:]))
        bent.append(text_of(lines[:at] + lines[at:][::-1]))
        word = draw.choice(sorted(WORDS))
        item = (word, *[draw.randint(0, 3) for _ in range(WORDS[word])])
        bent.append(text_of([*lines[:at], checked(at + 1, *item), *lines[at:]]))
        bent.append(text_of([*lines[:at], checked(at + 1, *item), *lines[at + 1:]]))
    for sign in " 0123456789#\n\ta-+":
        at = draw.randint(0, len(text))
        bent += [text[:at] + sign + text[at:], text[:at] + sign + text[at + 1:]]
    for _ in range(10):
        at = draw.randint(0, len(text))
        bent += [text[:at] + text[at + 1:], text[at:], text[at:] + text[:at]]
    return bent


class JournalsCase(unittest.TestCase):
    def check_recovered(self, web, rules, guide, text):
        """What is told fits the second way; returns how many lines were done."""
        pair = recovered(web, rules, guide, text)
        self.assertIs(type(pair), tuple)
        post, many = pair
        model, fits = model_recovered(web, rules, guide, text)
        self.assertEqual(many, fits, text)
        self.assertIs(type(many), int)
        self.assertIs(type(post), Post)
        self.assertEqual(all_told(post), all_told(model))
        self.assertEqual(len(post.log()), many)
        self.assertEqual(text.split("\n")[:many], journal(post).split("\n")[:many])
        return many

    def check_stops(self, lines, wrong, guide=None):
        """The lines ahead of a wrong one are done, and nothing of what follows."""
        many = self.check_recovered(WEB, RULES, guide, text_of([*lines, wrong, *lines]))
        self.assertEqual(many, len(lines), wrong)


class JournalTest(JournalsCase):
    def test_by_hand(self):
        for made, done in ((Town, DONE), (Post, DONE), (Post, DONE_BY_POST)):
            town = made(WEB, RULES)
            lines = []
            self.assertEqual(journal(town), "")
            for row, do in done:
                do(town)
                lines.append(row)
                self.assertEqual(journal(town), text_of(lines))
            while lines:
                town.back()
                lines.pop()
                self.assertEqual(journal(town), text_of(lines))

    def test_deeds_that_change_nothing_are_there_and_what_was_not_done_is_not(self):
        post = Post(((1,), ()), (levelling(1), None))
        post.act(0)
        post.send(1, 0)
        post.carry(0)
        post.deed(("show", 0, 1, 0))
        post.deed(("show", 0, 1, 0))
        self.assertEqual(journal(post), "send 1 0 #2\nshow 0 1 0 #4\nshow 0 1 0 #5\n")

    def test_many_lines_and_great_numbers(self):
        post = Post(line(2), (None, None))
        for _ in range(1200):
            post.send(0, 1)
        post.carry(1199)
        post.land(1199)
        text = journal(post)
        self.assertIs(type(text), str)
        self.assertEqual(text.split("\n")[1198:], ["send 0 1 #1201", "send 0 1 #1202", "carry 1199 #2400", "land 1199 #2401", ""])
        again, many = recovered(line(2), (None, None), None, text)
        self.assertEqual((many, all_told(again)), (1202, all_told(post)))

    def test_the_town_stays_as_it_was(self):
        post = Post(WEB, RULES)
        for _, do in DONE_BY_POST:
            do(post)
        before = all_told(post)
        self.assertEqual(journal(post), journal(post))
        self.assertEqual(journal(post.copy()), journal(post))
        self.assertEqual(all_told(post), before)


class RecoveredTest(JournalsCase):
    def test_whole(self):
        for done in (DONE, DONE_BY_POST):
            post = Post(WEB, RULES)
            for _, do in done:
                do(post)
            text = text_of(row for row, _ in done)
            self.assertEqual(self.check_recovered(WEB, RULES, None, text), len(done))
            self.assertEqual(all_told(recovered(WEB, RULES, None, text)[0]), all_told(post))

    def test_cut_at_every_sign(self):
        text = text_of(row for row, _ in DONE_BY_POST)
        for at in range(len(text) + 1):
            self.assertEqual(self.check_recovered(WEB, RULES, None, text[:at]), text[:at].count("\n"))

    def test_back_through_all_of_them(self):
        text = text_of(row for row, _ in DONE_BY_POST)
        post, many = recovered(WEB, RULES, None, text + "wrong\n")
        for left in reversed(range(many)):
            post.back()
            self.assertEqual(all_told(post), all_told(recovered(WEB, RULES, None, text_of(text.split("\n")[:left]))[0]))
        self.assertEqual(all_told(post), all_told(Post(WEB, RULES)))
        with self.assertRaises(NothingDone):
            post.back()

    def test_nothing_at_all(self):
        for text in ("", "\n", "\n\n", " ", "#", "# 1", "#1\n", " #1\n", "act 0 #1", "\nact 0 #1\n", "act 0 #1 \n"):
            post, many = recovered(WEB, RULES, None, text)
            self.assertEqual((many, all_told(post)), (0, all_told(Post(WEB, RULES))))

    def test_each_sign_changed(self):
        text = text_of(row for row, _ in DONE_BY_POST)
        for at in range(len(text)):
            for sign in "0129# \n\taz-":
                if sign != text[at]:
                    many = self.check_recovered(WEB, RULES, None, text[:at] + sign + text[at + 1:])
                    self.assertLessEqual(many, text[:at].count("\n"))
            self.check_recovered(WEB, RULES, None, text[:at] + text[at + 1:])

    def test_lines_left_out_twice_exchanged(self):
        lines = [row for row, _ in DONE_BY_POST]
        for at in range(len(lines)):
            for changed in (
                lines[:at] + lines[at + 1:], lines[:at + 1] + lines[at:], lines[:at] + lines[at:][::-1],
                lines[:at] + lines[at + 1:at + 2] + lines[at:at + 1] + lines[at + 2:], lines[at:],
            ):
                many = self.check_recovered(WEB, RULES, None, text_of(changed))
                self.assertEqual(many == len(changed), changed == lines[:len(changed)])

    def test_lines_that_stand_for_the_same_in_another_way(self):
        for changed in (
            "act  0 #1", " act 0 #1", "act 0 #1 ", "act 0  #1", "act 0 # 1", "act 0#1", "act 0 1", "act 00 #1", "act 0 #01",
            "act +0 #1", "act -0 #1", "act 0 #+1", "act 0 #1.", "ACT 0 #1", "Act 0 #1", "act\t0 #1", "act 0\t#1", "act 0 #1\t",
            "act 0 ##1", "act 0 #one", "act zero #1", "act 0 #", "act 0", "act #1", "0 #1", "act 0 #1#1", "('act', 0) #1",
            "act 0 #0", "act 0 #2", "act 0 #11", "act 0 # #1", "act 0 #1 #1", "act 0 0 #1", "act 0 #-1", "act, 0 #1",
            "act 0 1 #3", "act0 #1", "act 0_0 #1", "act 0 #1_0", "act " + "0" * 1000 + " #1", "act 0 #" + "0" * 999 + "1",
        ):
            self.check_stops([], changed)
        self.check_stops(["act 0 #1"], "come 1 2 #07")
        self.check_stops(["act 0 #1"], "come 01 2 #7")
        self.check_stops(["act 0 #1"], "")
        self.check_stops(["act 0 #1"], "come 1 2 #6")
        self.check_stops(["act 0 #1"], "come 1 2 #8")

    def test_wrong_lines_whose_check_is_right(self):
        lines = [row for row, _ in DONE_BY_POST]
        many = len(lines)
        wrong = [
            ("act", 3), ("act", 0), ("act", 4), ("act",), ("act", 0, 0), ("come", 1), ("come", 2, 1), ("come", 1, 1),
            ("come", 4, 0), ("come", 1, 2, 0), ("show", 0, 1), ("show", 0, 0, 1), ("show", 0, 1, 1), ("show", 0, 2, 1),
            ("show", 4, 1, 4), ("give", 0, 1, 2), ("give", 0, 1, 0), ("turn", 0, 2), ("turn", 0, 0), ("turn", 4, 0),
            ("enter", 4), ("enter", 0, 0), ("enter",), ("send", 0, 4), ("send", 4, 0), ("send", 0), ("carry", 2),
            ("carry", 0), ("carry", 1), ("land", 0), ("land", 2), ("carry",), ("land", 1, 0), ("back",), ("back", 0),
            ("put", 0, 1), ("copy",), ("settle", 5), ("web",), ("", 0), ("log",), ("Act", 0), ("_step",), ("deliver", 0),
            ("act", 10 ** 9), ("carry", 10 ** 999), ("land", 10 ** 999), ("send", 0, 10 ** 999), ("enter", 10 ** 500),
        ]
        for item in wrong:
            self.check_stops(lines, checked(many + 1, *item))
        right = [
            ("show", 1, 0, 1), ("turn", 0, 1), ("enter", 3), ("send", 0, 0), ("send", 3, 0), ("land", 1), ("come", 0, 2),
            ("come", 1, 2),
        ]
        for item in right:
            text = text_of([*lines, checked(many + 1, *item)])
            self.assertEqual(self.check_recovered(WEB, RULES, None, text), many + 1)
            self.check_stops(lines, checked(many + 2, *item))
            self.check_stops(lines, checked(many, *item))

    def test_what_changes_nothing(self):
        # Behind the act the same one would send the same letters: it is no item.
        self.check_stops(["act 0 #1"], checked(2, "act", 0))
        self.check_stops([], checked(1, "act", 1))
        self.check_stops(["send 1 2 #6"], checked(2, "carry", 0))
        self.check_stops(["send 1 1 #4"], checked(2, "carry", 0))
        self.check_stops(["send 0 2 #5", "carry 0 #2"], checked(3, "carry", 0))
        self.check_stops(["send 0 2 #5"], checked(2, "land", 0))
        # A deed by hand is one all the same.
        text = text_of(["show 0 1 0 #3", "show 0 1 0 #4"])
        self.assertEqual(self.check_recovered(WEB, RULES, None, text), 2)

    def test_newcomers_by_guide(self):
        text = "enter 0 #1\nact 3 #5\ncome 0 3 #9\n"
        tells_greater = Rule(1, {(0, 1): ((0,), ((0, -1),))})
        self.assertEqual(self.check_recovered(WEB, RULES, tells_greater, text), 1)
        tells_lesser = Rule(1, {(1, 0): ((0,), ((0, -1),))})
        self.assertEqual(self.check_recovered(WEB, RULES, tells_lesser, text), 3)
        self.assertEqual(self.check_recovered(WEB, RULES, None, text), 1)
        nine = text_of(checked(k, "enter", 0) for k in range(1, 10))
        self.assertEqual(self.check_recovered(WEB, RULES, levelling(8), nine), 6)
        post, _ = recovered(WEB, RULES, tells_lesser, "enter 0 #1\n")
        self.assertIs(post.act(3), True)
        post, _ = recovered(WEB, RULES, None, "enter 0 #1\n")
        self.assertIs(post.act(3), False)

    def test_drawn_journals(self):
        draw = random.Random(110)
        words = {}
        for drawn in range(120):
            guide = draw.choice([None, levelling(8), Rule(3, drawn_rows(draw, 3, 0.7, 0.8))])
            post, web, rules = drawn_post(draw, guide, notes=drawn % 3 > 0)
            text = journal(post)
            for word, *_ in post.log():
                words[word] = True
            # The log shows how the town was behind each item.
            earlier = post.copy()
            seen = {}
            while earlier.log():
                seen[len(earlier.log())] = shown(earlier)
                earlier.back()
            seen[0] = shown(earlier)
            for at in sorted({0, len(text), *[draw.randint(0, len(text)) for _ in range(25)]}):
                again, many = recovered(web, rules, guide, text[:at])
                self.assertEqual(many, text[:at].count("\n"))
                self.assertEqual(shown(again), seen[many])
            for bent in bent_texts(draw, text):
                self.check_recovered(web, rules, guide, bent)
        self.assertEqual(sorted(words), sorted(WORDS))

    def test_a_post_goes_on_from_there(self):
        text = text_of(row for row, _ in DONE_BY_POST[:11])
        post, many = recovered(WEB, RULES, None, text)
        for _, do in DONE_BY_POST[11:]:
            do(post)
        self.assertEqual(journal(post), text_of(row for row, _ in DONE_BY_POST))

    def test_a_long_journal(self):
        post = Post(((1,), ()), (TELLS, None))
        post.settle(10000)
        text = journal(post)
        again, many = recovered(((1,), ()), (TELLS, None), None, text)
        self.assertEqual((many, again.log()), (10000, post.log()))
        self.assertEqual(journal(again), text)


class ErrorsTest(JournalsCase):
    def test_no_web(self):
        for thing in wrong_webs() + odd_things():
            for others in ((RULES, None, ""), (None, 5, None), (RULES[:2], True, 0)):
                with self.assertRaises(NoWeb):
                    recovered(thing, *others)

    def test_no_rules(self):
        for rules in wrong_rules(3):
            for others in ((None, ""), (5, None), (levelling(1), 0)):
                with self.assertRaises(NoRules):
                    recovered(WEB, rules, *others)

    def test_no_rules_for_guide(self):
        for guide in [thing for thing in odd_things() if thing is not None] + [RULES, (None,), levelling(2).table(), "None"]:
            for text in ("", "act 0 #1\n", None, 5, []):
                with self.assertRaises(NoRules):
                    recovered(WEB, RULES, guide, text)

    def test_no_text(self):
        wrong = [thing for thing in odd_things() if not isinstance(thing, str)]
        for text in [*wrong, 0, 5, ["act 0 #1\n"], ("act 0 #1\n",), {"act 0 #1": 1}, levelling(1), Post(WEB, RULES), NoText()]:
            for guide in (None, levelling(3)):
                with self.assertRaises(NoText):
                    recovered(WEB, RULES, guide, text)


if __name__ == "__main__":
    unittest.main()
