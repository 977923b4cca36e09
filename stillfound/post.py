"""Posts: towns in which notes are carried to whom they are for, while webs change."""

from stillfound.errors import NoNote
from stillfound.notes import WITH, carried, first_on_way, first_to_go, is_delivered, landed
from stillfound.plain import check_person, is_between
from stillfound.town import Town


class Post(Town):
    """A town in which notes are sent, carried and landed."""

    def __init__(self, web, rules):
        super().__init__(web, rules)
        # For each note all that it has been, the last being what it is: so each step can be taken back.
        self._tracks = []

    def act(self, u):
        """Let u act by the own rule; returns whether the standing changed."""
        return super().act(u)

    def come(self, v, w):
        """Let the letter with w's card come to v."""
        super().come(v, w)

    def deed(self, deed):
        """Do a show, a give or a turn by hand."""
        super().deed(deed)

    def enter(self, friend, rule):
        """Let a new person come, with the friend's card; returns the number."""
        return super().enter(friend, rule)

    def web(self):
        """The web now."""
        return super().web()

    def letters(self):
        """The ascending tuple of the letters on the way."""
        return super().letters()

    def found(self):
        """For each person the ascending tuple of whom they find, letters held for whom they are to."""
        return super().found()

    def send(self, u, t):
        """Let a new note for t be with u; returns its number."""
        check_person(u, len(self._rules))
        check_person(t, len(self._rules))
        self._go_on(("send", u, t), self._standing)
        self._tracks.append([(WITH, u, t)])
        return len(self._tracks) - 1

    def carry(self, number):
        """Let a note go on to where it can; returns whether it did."""
        note = carried(self.web(), self._note(number))
        if note is None:
            return False
        self._change(("carry", number), note)
        return True

    def land(self, number):
        """Let a note on the way be with whom it was on the way to."""
        note = landed(self._note(number))
        if note is None:
            raise NoNote()
        self._change(("land", number), note)

    def notes(self):
        """The tuple of what all notes are, in the order of their numbers."""
        return tuple([track[-1] for track in self._tracks])

    def delivered(self):
        """The ascending tuple of the numbers of those that are delivered."""
        return tuple([number for number, note in enumerate(self.notes()) if is_delivered(note)])

    def rests(self):
        """Whether the town rests, and no note is on the way or can go on."""
        notes = self.notes()
        return super().rests() and first_on_way(notes) is None and first_to_go(self.web(), notes) is None

    def settle(self, most):
        """Let letters come, notes land and go on and people act until it rests; returns how many."""
        return super().settle(most)

    def log(self):
        """The list of all that was done and not taken back."""
        return super().log()

    def back(self):
        """Take back the last item of the log."""
        word, number = self._taken_back()[:2]
        if word == "send":
            self._tracks.pop()
        elif word in ("carry", "land"):
            self._tracks[number].pop()

    def copy(self):
        """A post that goes on apart, with all that can be taken back."""
        other = Post(self.web(), self._rules)
        self._copy_to(other)
        other._tracks = [list(track) for track in self._tracks]
        return other

    def _note(self, thing):
        """The note with a number; NoNote for what is no number of one."""
        if not is_between(thing, 0, len(self._tracks) - 1):
            raise NoNote()
        return self._tracks[thing][-1]

    def _change(self, item, note):
        """Put an item about a note into the log, with what the note is behind it."""
        _, number = item
        self._go_on(item, self._standing)
        self._tracks[number].append(note)

    def _step(self):
        """Let the least letter come, else the least note land or go on, else the least person act."""
        if self.letters():
            return super()._step()
        notes = self.notes()
        number = first_on_way(notes)
        if number is not None:
            self.land(number)
            return True
        number = first_to_go(self.web(), notes)
        if number is not None:
            return self.carry(number)
        return super()._step()
