"""Promise 14: texts, and of 2, 3 and 4 what holds for them."""

import random
import unittest

from stillfound.deeds import behind
from stillfound.errors import BadText, NoRow, NoWeb
from stillfound.rules import levelling
from stillfound.texts import read_row, read_web, row_text, web_text
from stillfound.wishes import script
from tests.helper import all_webs, bare, crowd, drawn_web, line, odd_things, right_deeds, ring, wrong_webs

RIGHT_WEB = "0: 1 2\n1:\n2: 0"
RIGHT_ROW = "show 0 1 2\ngive 0 1 2\nturn 1 0\ncome 2 1"

# Words that are no numbers as a text has them.
WRONG_NUMBERS = [
    "", "00", "01", "007", "-1", "+1", "-0", "1.0", "0x1", "1_0", "1e1", "a", "one", "None", "True", "1\t", "\t1", "(1)",
    "1,", ",", "1:", "#1", "1" * 10, "1000000000", "9" * 10, "9" * 1000, "0" * 1000, "1" + "0" * 999, "-" + "9" * 999,
]


def model_word(word):
    """The number that a word tells, or None: by the words of the point."""
    figures = {"0", "1", "2", "3", "4", "5", "6", "7", "8", "9"}
    if word == "" or len(word) > 9 or not set(word) <= figures:
        return None
    return int(word) if str(int(word)) == word else None


def model_pocket(line, u):
    """The cards of a line of the text of a web, or None."""
    head, *words = line.split(" ")
    cards = [model_word(word) for word in words]
    if head != str(u) + ":" or None in cards or u in cards or cards != sorted(set(cards)):
        return None
    return tuple(cards)


def model_web(text):
    """What read_web should tell: a web, or the line of BadText."""
    web = [model_pocket(line, u) for u, line in enumerate(text.split("\n"))]
    if None in web:
        return web.index(None) + 1
    for number, pocket in enumerate(web):
        if any(w >= len(web) for w in pocket):
            return number + 1
    return len(web) + 1 if len(web) > 9 else tuple(web)


def model_deed(line):
    """The deed of a line, or None."""
    word, *words = line.split(" ")
    numbers = [model_word(other) for other in words]
    if None in numbers or {"show": 3, "give": 3, "turn": 2, "come": 2}.get(word) != len(numbers):
        return None
    if word in ("turn", "come"):
        return (word, *numbers) if numbers[0] != numbers[1] else None
    u, v, w = numbers
    return (word, u, v, w) if v not in (u, w) and (word == "show" or u != w) else None


def model_row(text):
    """What read_row should tell: a row, or the line of BadText."""
    row = [model_deed(line) for line in text.split("\n")] if text else []
    return row.index(None) + 1 if None in row else tuple(row)


def bent_texts(draw, text):
    """What stands near a text: signs changed, left out, put in; lines left out, twice, exchanged."""
    told = []
    for sign in " 0123456789:-#\n\tashow":
        at = draw.randint(0, len(text))
        told += [text[:at] + sign + text[at:], text[:at] + sign + text[at + 1:]]
    for _ in range(10):
        at = draw.randint(0, len(text))
        told += [text[:at] + text[at + 1:], text[:at], text[at:], text[:at] + text[at:][::-1]]
    lines = text.split("\n")
    for at in range(len(lines)):
        told += ["\n".join(lines[:at] + more + lines[at + 1:]) for more in ([], lines[at:at + 1] * 2, [""], ["0 "])]
        told.append("\n".join(lines[:at] + lines[at:][::-1]))
    return told


class TextsCase(unittest.TestCase):
    def check_bad(self, read, text, number):
        with self.assertRaises(BadText) as caught:
            read(text)
        self.assertEqual(caught.exception.line, number, text)
        self.assertIs(type(caught.exception.line), int)

    def check_text(self, read, model, text):
        """What is read of a text, or which line is told; returns whether it was read."""
        told = model(text)
        if type(told) is int:
            self.check_bad(read, text, told)
        else:
            self.assertEqual(read(text), told)
        return type(told) is tuple


class WrittenTest(TextsCase):
    def test_web_text(self):
        self.assertEqual(web_text(((1, 2), (), (0,))), RIGHT_WEB)
        self.assertEqual(web_text(((),)), "0:")
        self.assertEqual(web_text(bare(9)), "0:\n1:\n2:\n3:\n4:\n5:\n6:\n7:\n8:")
        self.assertEqual(web_text(((1,), ())), "0: 1\n1:")

    def test_row_text(self):
        row = (("show", 0, 1, 2), ("give", 0, 1, 2), ("turn", 1, 0), ("come", 2, 1))
        self.assertEqual(row_text(row), RIGHT_ROW)
        self.assertEqual(row_text(()), "")
        self.assertEqual(row_text((("come", 10, 999999999),)), "come 10 999999999")
        self.assertEqual(row_text((("turn", 0, 10 ** 999),)), "turn 0 " + "1" + "0" * 999)

    def test_webs_written_and_read_again(self):
        draw = random.Random(91)
        webs = [web for many in (1, 2, 3) for web in all_webs(many)] + [crowd(9), ring(9), line(9), bare(9)]
        webs += [drawn_web(draw, draw.randint(4, 9), 0.4) for _ in range(100)]
        for web in webs:
            text = web_text(web)
            self.assertIs(type(text), str)
            self.assertEqual(read_web(text), web)
            self.assertEqual(len(text.split("\n")), len(web))

    def test_rows_written_and_read_again(self):
        draw = random.Random(92)
        deeds = right_deeds(range(4)) + right_deeds((0, 8, 9, 10, 999999999))
        rows = [(), tuple(deeds)] + [(deed,) for deed in deeds]
        rows += [tuple(draw.choices(deeds, k=draw.randint(1, 9))) for _ in range(100)]
        for row in rows:
            self.assertEqual(read_row(row_text(row)), row)
        self.assertEqual(read_row(""), ())
        self.assertIs(type(read_row(RIGHT_ROW)), tuple)

    def test_a_script_goes_by_text(self):
        web, wish = ring(5), crowd(5)
        row = read_row(row_text(script(web, wish, False)))
        self.assertEqual(behind((read_web(web_text(web)), ()), row, False), (wish, ()))

    def test_a_long_row(self):
        row = (("show", 0, 1, 0), ("come", 1, 0)) * 10000
        self.assertEqual(read_row(row_text(row)), row)

    def test_no_web(self):
        for thing in wrong_webs() + odd_things() + [RIGHT_WEB]:
            with self.assertRaises(NoWeb):
                web_text(thing)

    def test_no_row(self):
        wrong = [
            [("show", 0, 1, 2)], (("show", 0, 1),), (("show", 0, 0, 1),), (("show", 0, 1, 1),), (("give", 0, 1, 0),),
            (("turn", 0, 0),), (("come", 1, 1),), (("turn", 0, True),), (("turn", 0, -1),), (["turn", 0, 1],), ("turn", 0, 1),
            (("act", 0),), (("come", 0, 1), None), (("come", 0, 1), ("come", 0)), (("send", 0, 1),), (("Come", 0, 1),),
            (("come", "0", "1"),), RIGHT_ROW, (RIGHT_ROW,), (levelling(1),),
        ]
        for thing in wrong + [thing for thing in odd_things() if thing != ()]:
            with self.assertRaises(NoRow):
                row_text(thing)


class ReadWebTest(TextsCase):
    def check(self, text):
        return self.check_text(read_web, model_web, text)

    def test_each_wrong_number(self):
        for word in WRONG_NUMBERS:
            self.check_bad(read_web, f"0: 1\n1: {word}", 2)
            self.check_bad(read_web, f"0: {word}\n1: 0", 1)
            self.check_bad(read_web, f"0: {word} 1\n1: 0", 1)
            self.check_bad(read_web, f"0: 1\n{word}: 0", 2)
            self.check(f"0: 1\n1: {word}")

    def test_each_wrong_line(self):
        for line in (
            "", "1", "1 :", "1: ", " 1:", "1:0", "1:  0", "1: 0 ", "1: 0  2", "1: 0\t", "1:\t0", "\t1:", "1: 0,2", "1: 02",
            "2: 0", "0: 0", "01: 0", "1: 1", "1: 0 1", "1: 2 0", "1: 0 0", "1: 2 2", "1: -0", "1: +0", "one: 0", "1: two",
            "1; 0", ": 0", "1: :", "1:: 0", "1: 0 2 #", "show 0 1 2", "1: 0 2 0", "1: 00", "1: (0)", "1.0: 0", "10: 0",
        ):
            self.check_bad(read_web, f"0: 1\n{line}\n2: 0", 2)
            self.check_bad(read_web, f"0: 1\n{line}\nwrong too", 2)
            self.check_bad(read_web, f"0: 99\n{line}\n2: 0", 2)
            self.check_bad(read_web, f"0: 0\n{line}\n2: 0", 1)

    def test_line_feeds(self):
        self.check_bad(read_web, RIGHT_WEB + "\n", 4)
        self.check_bad(read_web, RIGHT_WEB + "\n\n", 4)
        self.check_bad(read_web, "\n" + RIGHT_WEB, 1)
        self.check_bad(read_web, "", 1)
        self.check_bad(read_web, "\n", 1)
        self.check_bad(read_web, "0:\n", 2)
        self.check_bad(read_web, "0:\n\n1:", 2)

    def test_cards_of_somebody_who_has_no_line(self):
        self.check_bad(read_web, "0: 1", 1)
        self.check_bad(read_web, "0: 1\n1: 2", 2)
        self.check_bad(read_web, "0: 1\n1: 0 2\n2: 3\n3:\n4: 1 5\n5:\n6: 7", 7)
        self.check_bad(read_web, "0: 999999999\n1: 0", 1)
        # First comes the first line that is not so, though behind it.
        self.check_bad(read_web, "0: 5\n1: 00", 2)
        self.check_bad(read_web, "0: 5\n1:\n", 3)
        self.check_bad(read_web, "0: 1000000000\n1: 0", 1)

    def test_more_than_nine_lines(self):
        for many in (10, 11, 12, 100, 2000):
            text = "\n".join(f"{u}:" for u in range(many))
            self.check_bad(read_web, text, many + 1)
            self.check_bad(read_web, text + f" {many - 2}", many + 1)
            self.check_bad(read_web, text + f" {many}", many)
            self.check_bad(read_web, text + "\n", many + 1)
            self.check_bad(read_web, text.replace("7:", "7: 7", 1), 8)
            self.check_bad(read_web, text.replace("3:", f"3: {many}", 1), 4)
            self.check_bad(read_web, text.replace("3:", f"3: {many}", 1) + " 00", many)
        self.assertEqual(read_web("\n".join(f"{u}:" for u in range(9))), bare(9))

    def test_which_of_several_faults_is_told(self):
        faults = ["0: 0\n1:\n2:", "0: 9\n1: 1\n2:", "0: 9\n1: 9\n2: x", "0:\n1: 9\n2:\n3", "0: 1\n1: 2 3\n2: 3"]
        self.assertEqual([model_web(text) for text in faults], [1, 2, 3, 4, 2])
        for text in faults:
            self.check(text)

    def test_bent_texts(self):
        draw = random.Random(93)
        read = 0
        for _ in range(60):
            web = drawn_web(draw, draw.randint(1, 9), draw.choice([0.2, 0.5]))
            for text in bent_texts(draw, web_text(web)):
                read += self.check(text)
        self.assertGreater(read, 50)

    def test_what_is_no_string(self):
        for thing in [thing for thing in odd_things() if not isinstance(thing, str)] + [
            5, 0, RIGHT_WEB.split("\n"), tuple(RIGHT_WEB.split("\n")), (RIGHT_WEB,), [RIGHT_WEB], {RIGHT_WEB: 1}, line(3),
            levelling(1), BadText(3),
        ]:
            self.check_bad(read_web, thing, 0)
            self.check_bad(read_row, thing, 0)


class ReadRowTest(TextsCase):
    def check(self, text):
        return self.check_text(read_row, model_row, text)

    def test_each_wrong_number(self):
        for word in WRONG_NUMBERS:
            for deed in (f"show {word} 1 2", f"give 0 {word} 2", f"show 0 1 {word}", f"turn {word} 2", f"come 0 {word}"):
                self.check_bad(read_row, deed, 1)
                self.check_bad(read_row, f"turn 1 0\n{deed}\nturn 0 1", 2)

    def test_each_wrong_line(self):
        for line in (
            "", " ", "show", "show 0", "show 0 1", "show 0 1 2 3", "give 0 1", "turn 0", "turn 0 1 2", "come", "come 0 1 2",
            "show 0 0 1", "show 0 1 1", "give 0 0 1", "give 0 1 1", "give 0 1 0", "turn 0 0", "come 1 1", "Show 0 1 2",
            "act 0", "enter 0", "send 0 1", "carry 0", "land 0", "0 1 2", "show  0 1 2", "show 0  1 2", " show 0 1 2",
            "show 0 1 2 ", "show 0 1 2\t", "show\t0 1 2", "show 0 1 02", "show 0, 1, 2", "(show 0 1 2)", "show 0 1 -2",
            "show 0 1 two", "come 0 1 #3", "0: 1",
        ):
            self.check_bad(read_row, line if line else "\n", 1)
            self.check_bad(read_row, f"turn 0 1\n{line}\ncome 0 1", 2)
            self.check_bad(read_row, f"turn 0 1\n{line}\nwrong too", 2)

    def test_line_feeds(self):
        self.check_bad(read_row, RIGHT_ROW + "\n", 5)
        self.check_bad(read_row, "\n" + RIGHT_ROW, 1)
        self.check_bad(read_row, "\n", 1)
        self.check_bad(read_row, "turn 0 1\n\nturn 0 1", 2)

    def test_people_of_any_number(self):
        self.assertEqual(read_row("show 9 10 999999999"), (("show", 9, 10, 999999999),))
        self.check_bad(read_row, "show 9 10 1000000000", 1)
        self.assertEqual(read_row("show 5 6 5\ncome 0 1"), (("show", 5, 6, 5), ("come", 0, 1)))

    def test_bent_texts(self):
        draw = random.Random(94)
        read = 0
        for _ in range(60):
            row = tuple(draw.choices(right_deeds(range(12)), k=draw.randint(0, 6)))
            for text in bent_texts(draw, row_text(row)):
                read += self.check(text)
        self.assertGreater(read, 50)


if __name__ == "__main__":
    unittest.main()
