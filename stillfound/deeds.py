"""Standings, the deeds that change them, and rows of deeds."""

from stillfound.errors import NoRow, NoStanding, NotLet
from stillfound.plain import is_ascending, is_integer, is_person
from stillfound.webs import all_found, is_web


def is_standing(thing):
    """Whether a thing is a standing."""
    if not isinstance(thing, tuple) or len(thing) != 2:
        return False
    return is_web(thing[0]) and are_letters(thing[1], len(thing[0]))


def are_letters(thing, many):
    """Whether a thing tells all letters on the way among so many people."""
    if not isinstance(thing, tuple):
        return False
    return all([is_letter(letter, many) for letter in thing]) and is_ascending(thing)


def is_letter(thing, many):
    """Whether a thing is a letter that may be on the way among so many people."""
    if not isinstance(thing, tuple) or len(thing) != 2:
        return False
    return all([is_person(u, many) for u in thing]) and thing[0] != thing[1]


def is_row(thing):
    """Whether a thing is a row, whoever its people are."""
    return isinstance(thing, tuple) and all([is_deed(deed) for deed in thing])


def is_deed(thing):
    """Whether a thing is a deed, whoever its people are."""
    if not isinstance(thing, tuple) or len(thing) not in (3, 4):
        return False
    if not all([is_integer(u) and u >= 0 for u in thing[1:]]):
        return False
    if len(thing) == 3:
        word, u, w = thing
        return word in ("turn", "come") and u != w
    return is_passing(thing)


def is_passing(thing):
    """Whether a word and three people are a show or a give."""
    word, u, v, w = thing
    if v in (u, w):
        return False
    return word == "show" or (word == "give" and u != w)


def found(standing):
    """For each person the ascending tuple of whom they find, letters held for whom they are to."""
    check_standing(standing)
    return all_found(arrived(standing))


def fault(standing, row, turning):
    """The index of the first deed that can't be done or is a turn that is not let, or None."""
    check_standing(standing)
    check_row(row)
    index, _ = walked(standing, row, turning)
    return index


def behind(standing, row, turning):
    """The standing behind all deeds of the row."""
    check_standing(standing)
    check_row(row)
    index, last = walked(standing, row, turning)
    if index is not None:
        raise NotLet(index)
    return last


def check_standing(thing):
    """Raise NoStanding for what is no standing."""
    if not is_standing(thing):
        raise NoStanding()


def check_row(thing):
    """Raise NoRow for what is no row."""
    if not is_row(thing):
        raise NoRow()


def walked(standing, row, turning):
    """The index of the first deed that is not let, or None, and the standing ahead of it, or behind all."""
    for index, deed in enumerate(row):
        if not is_let(standing, deed, turning):
            return index, standing
        standing = done(standing, deed)
    return None, standing


def is_let(standing, deed, turning):
    """Whether a deed can be done now, and is no turn where turning is False."""
    web, letters = standing
    if deed[0] == "come":
        return deed[1:] in letters
    u = deed[1]
    if u >= len(web):
        return False
    if deed[0] == "turn":
        return turning and deed[2] in web[u]
    _, u, v, w = deed
    # A row has no give of the own card: w is u in a show alone.
    return v in web[u] and (w == u or w in web[u])


def done(standing, deed):
    """The standing behind a deed that can be done."""
    web, letters = standing
    if deed[0] == "come":
        _, v, w = deed
        return with_card(web, v, w), tuple([letter for letter in letters if letter != (v, w)])
    if deed[0] == "turn":
        _, u, w = deed
        return without_card(web, u, w), joined(letters, (w, u))
    word, u, v, w = deed
    if word == "give":
        web = without_card(web, u, w)
    return web, joined(letters, (v, w))


def arrived(standing):
    """The web behind the coming of all letters of a standing."""
    web, letters = standing
    for v, w in letters:
        web = with_card(web, v, w)
    return web


def with_card(web, u, w):
    """The web in which u holds w's card, too."""
    return (*web[:u], joined(web[u], w), *web[u + 1:])


def without_card(web, u, w):
    """The web in which u doesn't hold w's card."""
    return (*web[:u], tuple([x for x in web[u] if x != w]), *web[u + 1:])


def joined(row, item):
    """The ascending tuple of a row's items and this one."""
    if item in row:
        return row
    return tuple(sorted([*row, item]))
