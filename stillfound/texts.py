"""Texts: webs and rows written as lines, and read from them."""

from stillfound.deeds import check_row, is_deed
from stillfound.errors import BadText
from stillfound.plain import is_ascending
from stillfound.webs import MOST_PEOPLE, check_web

MOST_FIGURES = 9


def web_text(web):
    """A line for each person, with the number, a colon and the cards."""
    check_web(web)
    return "\n".join([person_line(u, pocket) for u, pocket in enumerate(web)])


def row_text(row):
    """A line for each deed, with its words and numbers."""
    check_row(row)
    return "\n".join([item_line(deed) for deed in row])


def read_web(text):
    """The web that a text tells."""
    lines = lines_of(text)
    web = tuple([read_pocket(line, u) for u, line in enumerate(lines)])
    for u, pocket in enumerate(web):
        if pocket and pocket[-1] >= len(web):
            raise BadText(u + 1)
    if len(web) > MOST_PEOPLE:
        raise BadText(len(web) + 1)
    return web


def read_row(text):
    """The row that a text tells."""
    if text == "":
        return ()
    return tuple([read_deed(line, k + 1) for k, line in enumerate(lines_of(text))])


def lines_of(text):
    """The list of the lines of a text; BadText for what is no string."""
    if not isinstance(text, str):
        raise BadText(0)
    return text.split("\n")


def person_line(u, pocket):
    """The line of a person with these cards."""
    return " ".join([f"{u}:", *[str(w) for w in pocket]])


def item_line(item):
    """A line with the words and numbers of a tuple."""
    return " ".join([str(part) for part in item])


def number_of(word):
    """The integer that a word of figures is, or None for what is no right one."""
    if not 1 <= len(word) <= MOST_FIGURES or not all([sign in "0123456789" for sign in word]):
        return None
    return int(word) if word == "0" or word[0] != "0" else None


def read_item(line):
    """The tuple of the first word of a line and the numbers behind it; None stands for what is no number."""
    word, *others = line.split(" ")
    return word, *[number_of(other) for other in others]


def read_pocket(line, u):
    """The cards of the line of a person; BadText for what is no such line."""
    word, *cards = read_item(line)
    if word != f"{u}:" or None in cards or u in cards or not is_ascending(cards):
        raise BadText(u + 1)
    return tuple(cards)


def read_deed(line, number):
    """The deed of a line; BadText with its number for what is none."""
    deed = read_item(line)
    if not is_deed(deed):
        raise BadText(number)
    return deed
