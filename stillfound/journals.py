"""Journals: the logs of towns and posts as texts with checks, and what can be recovered of them."""

from stillfound.errors import CardError, NoText
from stillfound.post import Post
from stillfound.rules import check_rule, check_rules
from stillfound.texts import item_line, read_item
from stillfound.webs import check_web

# How many numbers stand in an item of a log, behind its word.
NUMBERS = {
    "act": 1, "come": 2, "show": 3, "give": 3, "turn": 2, "enter": 1, "send": 2, "carry": 1, "land": 1,
}


def journal(town):
    """A line with a check for each item of a town's log."""
    return "".join([checked_line(item, k + 1) + "\n" for k, item in enumerate(town.log())])


def recovered(web, rules, guide, text):
    """A post in which the lines of a journal are done from the front as far as they are right, and how many."""
    check_web(web)
    check_rules(rules, len(web))
    check_rule(guide)
    if not isinstance(text, str):
        raise NoText()
    post = Post(web, rules)
    many = 0
    # Behind the last line feed there is no whole line.
    for line in text.split("\n")[:-1]:
        item = read_item(line.rpartition(" ")[0])
        if not is_item(item) or checked_line(item, many + 1) != line or not is_done(post, item, guide):
            break
        many += 1
    return post, many


def checked_line(item, number):
    """The line of an item with its check."""
    check = number + sum([place * part for place, part in enumerate(item) if place > 0])
    return f"{item_line(item)} #{check}"


def is_item(thing):
    """Whether what was read of a line is a word with as many numbers as a log tells with it."""
    return None not in thing and NUMBERS.get(thing[0]) == len(thing) - 1


def is_done(post, item, guide):
    """Do an item of a log if it can be done now; returns whether."""
    word, *numbers = item
    try:
        if word == "act":
            return post.act(*numbers)
        if word == "carry":
            return post.carry(*numbers)
        if word == "come":
            post.come(*numbers)
        elif word == "enter":
            post.enter(*numbers, guide)
        elif word == "send":
            post.send(*numbers)
        elif word == "land":
            post.land(*numbers)
        else:
            post.deed(item)
    except CardError:
        return False
    return True
