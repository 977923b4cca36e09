"""Registers: great webs under edits."""

from stillfound.errors import Held, NoCard, NoNumber, NoPerson, NothingDone
from stillfound.plain import check_person, is_between
from stillfound.webs import all_found, found_from, knots_among, pieces_among

MOST_MANY = 200


class Register:
    """A web of many people, at first without cards, in which cards are put and cut."""

    def __init__(self, many):
        if not is_between(many, 1, MOST_MANY):
            raise NoNumber()
        self._many = many
        # For each person whose cards they hold, and likewise who holds theirs: as dicts of True.
        self._pockets = [{} for _ in range(many)]
        self._holders = [{} for _ in range(many)]
        self._log = []

    def put(self, u, w):
        """Let u hold w's card; returns the ascending tuple of the people who find more now."""
        self._check_pair(u, w)
        if w in self._pockets[u]:
            raise Held()
        ahead = self._finders(w)
        self._hold(u, w)
        self._log.append(("put", u, w))
        # Whoever finds somebody new does so by way of w, and didn't find w ahead of it.
        return others(self._finders(w), ahead)

    def cut(self, u, w):
        """Let u not hold w's card any more; returns the ascending tuple of the people who find fewer now."""
        self._check_pair(u, w)
        if w not in self._pockets[u]:
            raise NoCard()
        ahead = self._finders(w)
        self._drop(u, w)
        self._log.append(("cut", u, w))
        return others(ahead, self._finders(w))

    def pocket(self, u):
        """The ascending tuple of those whose cards u holds."""
        check_person(u, self._many)
        return tuple(sorted(self._pockets[u]))

    def finds(self, u):
        """The ascending tuple of whom u finds."""
        check_person(u, self._many)
        return found_from(self._pockets, u)

    def cards(self):
        """The ascending tuple of all pairs of a person and somebody whose card they hold."""
        return tuple([(u, w) for u in range(self._many) for w in sorted(self._pockets[u])])

    def pieces(self):
        """The ascending tuple of all pieces."""
        return pieces_among(self._pockets)

    def knots(self):
        """The ascending tuple of all knots."""
        return knots_among(all_found(self._pockets))

    def log(self):
        """The list of all that was put and cut and not taken back."""
        return list(self._log)

    def back(self):
        """Take back the last item of the log."""
        if not self._log:
            raise NothingDone()
        word, u, w = self._log.pop()
        if word == "put":
            self._drop(u, w)
        else:
            self._hold(u, w)

    def copy(self):
        """A register that goes on apart, with all that can be taken back."""
        other = Register(self._many)
        for u, w in self.cards():
            other._hold(u, w)
        other._log = list(self._log)
        return other

    def _check_pair(self, u, w):
        """Raise NoPerson for what is nobody, or not somebody else."""
        check_person(u, self._many)
        check_person(w, self._many)
        if u == w:
            raise NoPerson()

    def _finders(self, w):
        """The ascending tuple of all who find w."""
        return found_from(self._holders, w)

    def _hold(self, u, w):
        """Give u a card."""
        self._pockets[u][w] = True
        self._holders[w][u] = True

    def _drop(self, u, w):
        """Take a card from u."""
        del self._pockets[u][w]
        del self._holders[w][u]


def others(row, known):
    """The tuple of all of a row who are not known."""
    seen = set(known)
    return tuple([u for u in row if u not in seen])
