"""Towns: people who act by rules, in any order, with all that was done there."""

from stillfound.deeds import arrived, done, is_deed, is_let, is_letter
from stillfound.errors import Full, NoDeed, NoLetter, NoNumber, NothingDone
from stillfound.plain import check_person, is_between
from stillfound.rules import acted, check_rule, check_rules
from stillfound.webs import MOST_PEOPLE, all_found, check_web

MOST_STEPS = 10000


class Town:
    """A company, its letters, and for each person a rule, or None for whoever never acts."""

    def __init__(self, web, rules):
        check_web(web)
        check_rules(rules, len(web))
        self._standing = (web, ())
        self._rules = rules
        # No deed makes an act undone, so each item of the log keeps the standing and the rules ahead of it.
        self._past = []

    def act(self, u):
        """Let u act by the own rule; returns whether the standing changed."""
        check_person(u, len(self._rules))
        behind = acted(self._standing, u, self._rules[u])
        if behind == self._standing:
            return False
        self._go_on(("act", u), behind)
        return True

    def come(self, v, w):
        """Let the letter with w's card come to v."""
        if not is_letter((v, w), len(self._rules)) or (v, w) not in self.letters():
            raise NoLetter()
        deed = ("come", v, w)
        self._go_on(deed, done(self._standing, deed))

    def deed(self, deed):
        """Do a show, a give or a turn by hand."""
        if not is_deed(deed) or deed[0] == "come" or not is_let(self._standing, deed, True):
            raise NoDeed()
        self._go_on(deed, done(self._standing, deed))

    def enter(self, friend, rule):
        """Let a new person come, with the friend's card; returns the number."""
        check_person(friend, len(self._rules))
        check_rule(rule)
        number = len(self._rules)
        if number == MOST_PEOPLE:
            raise Full()
        web, letters = self._standing
        self._go_on(("enter", friend), ((*web, (friend,)), letters))
        self._rules = (*self._rules, rule)
        return number

    def web(self):
        """The web now."""
        return self._standing[0]

    def letters(self):
        """The ascending tuple of the letters on the way."""
        return self._standing[1]

    def found(self):
        """For each person the ascending tuple of whom they find, letters held for whom they are to."""
        return all_found(arrived(self._standing))

    def rests(self):
        """Whether there are no letters, and no act changes the standing."""
        return not self.letters() and first_to_act(self._standing, self._rules) is None

    def settle(self, most):
        """Let letters come and people act until the town rests, at most so many times; returns how many."""
        if not is_between(most, 0, MOST_STEPS):
            raise NoNumber()
        many = 0
        while many < most and self._step():
            many += 1
        return many

    def log(self):
        """The list of all that was done and not taken back."""
        return [item for item, _, _ in self._past]

    def back(self):
        """Take back the last item of the log."""
        self._taken_back()

    def copy(self):
        """A town that goes on apart, with all that can be taken back."""
        other = Town(self.web(), self._rules)
        self._copy_to(other)
        return other

    def _go_on(self, item, standing):
        """Put an item into the log, with the standing behind it."""
        self._past.append((item, self._standing, self._rules))
        self._standing = standing

    def _taken_back(self):
        """Take back the last item of the log; returns the item."""
        if not self._past:
            raise NothingDone()
        item, self._standing, self._rules = self._past.pop()
        return item

    def _copy_to(self, other):
        """Let a new town of the same rules stand where this one does, with all that can be taken back."""
        other._standing = self._standing
        other._past = list(self._past)

    def _step(self):
        """Let the least letter come, or the least person act whose act changes something; returns whether."""
        if self.letters():
            v, w = self.letters()[0]
            self.come(v, w)
            return True
        u = first_to_act(self._standing, self._rules)
        return u is not None and self.act(u)


def first_to_act(standing, rules):
    """The least person whose act changes the standing, or None."""
    for u, rule in enumerate(rules):
        if acted(standing, u, rule) != standing:
            return u
    return None
