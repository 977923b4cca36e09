"""Farewells: who can be spared, and what must be shown ahead of that."""

from stillfound.deeds import arrived, check_standing, with_card
from stillfound.plain import check_person
from stillfound.webs import all_found, check_web, without


def is_spare(standing, x):
    """Whether all others would still find one another as they do if x vanished, with all letters to x and of x."""
    check_standing(standing)
    check_person(x, len(standing[0]))
    return is_needless(arrived(standing), x)


def spare(web):
    """The ascending tuple of all who are spare in the web without letters."""
    check_web(web)
    return tuple([x for x in range(len(web)) if is_needless(web, x)])


def farewell(standing, x):
    """A row of shows and comes that can be done, behind which x is spare."""
    check_standing(standing)
    check_person(x, len(standing[0]))
    web, letters = standing
    if is_needless(arrived(standing), x):
        return ()
    comes = [("come", v, w) for v, w in letters]
    return tuple(comes + introductions(arrived(standing), x))


def is_needless(web, x):
    """Whether everybody else would still find whom they find in a web if x vanished."""
    return without(all_found(web), (x,)) == without(all_found(without(web, (x,))), (x,))


def introductions(web, x):
    """Shows, each letter coming, behind which all who hold x's card hold all cards of x's."""
    row = []
    friends = [u for u in range(len(web)) if x in web[u]]
    for u in friends:
        if u not in web[x]:
            # x can show somebody a card only while holding theirs.
            row += [("show", u, x, u), ("come", x, u)]
            web = with_card(web, x, u)
    for u in friends:
        row += [deed for w in web[x] if w != u and w not in web[u] for deed in (("show", x, u, w), ("come", u, w))]
    return row
