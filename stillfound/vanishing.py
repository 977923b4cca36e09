"""Vanishing: whether all who are left find one another, whoever vanishes."""

from itertools import combinations

from stillfound.errors import NoNumber
from stillfound.plain import is_between
from stillfound.webs import MOST_PEOPLE, all_found, check_web, without


def firm(web, k):
    """Whether all who are left find one another, whichever at most k people vanish."""
    return weak(web, k) is None


def weak(web, k):
    """The least lot of at most k people behind whose vanishing somebody left doesn't find somebody left, or None."""
    check_web(web)
    if not is_between(k, 0, MOST_PEOPLE):
        raise NoNumber()
    return weak_lot(web, k)


def greatest_firm(web):
    """The greatest k up to the number of people for which the web is firm, or -1."""
    check_web(web)
    lot = weak_lot(web, len(web))
    return len(web) if lot is None else len(lot) - 1


def weak_lot(web, most):
    """What weak tells of a web and at most so many people."""
    for size in range(min(most, len(web)) + 1):
        for lot in combinations(range(len(web)), size):
            if not is_whole(web, lot):
                return lot
    return None


def is_whole(web, gone):
    """Whether all who are left find one another where these people have vanished."""
    found = without(all_found(without(web, gone)), gone)
    left = len(web) - len(gone)
    return all([len(row) == left for u, row in enumerate(found) if u not in gone])
