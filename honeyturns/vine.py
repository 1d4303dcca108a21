"""A vine kept: a hill and a STATE of it, changed by deeds that can be undone one by one."""

from honeyturns.deeds import adopted, dipped, gone_on, locked, needing, parted, potted, poured, unlocked, weathered
from honeyturns.errors import NoDeed
from honeyturns.losses import losses
from honeyturns.pots import with_pot


class Vine:
    """A hill and its STATE, with all that was lost, all turns that are gone in the deeds that stand."""

    def __init__(self, hill, state):
        # The rows (hill, STATE, lost, gone): how all stands, and how it stood ahead of each deed.
        # They're of tuples alone: a row is told and kept in several vines, and never changes.
        day, ant, pot = state
        self._now = (with_pot(hill, hill[2]), (day, ant, pot), 0, 0)
        self._ahead = []
        self._words = []

    def _done(self, word, deed, numbers, turns=0):
        """Does the deed, its words in the log whether it's refused or not: told is how much was lost."""
        self._words.append(("in", word))
        try:
            hill, state, lost, gone = self._now
            hill, state, more = deed(hill, state, *numbers)
            self._ahead.append(self._now)
            self._now = (hill, state, lost + more, gone + turns)
        finally:
            self._words.append(("out", word))
        return more

    def go(self, many=1):
        """So many turns: told is how much was lost."""
        return self._done("go", gone_on, (many,), many)

    def pour(self, drops):
        """Drops into the pot: told is what it doesn't hold."""
        return self._done("pour", poured, (drops,))

    def dip(self, drops):
        """Drops out of the pot."""
        self._done("dip", dipped, (drops,))

    def weather(self, day, drops):
        """The year's day gives so many drops."""
        self._done("weather", weathered, (day, drops))

    def unlock(self, day):
        """The year's day is open."""
        self._done("unlock", unlocked, (day,))

    def lock(self, day):
        """The year's day isn't open."""
        self._done("lock", locked, (day,))

    def need(self, ant, many):
        """The ant needs so many."""
        self._done("need", needing, (ant, many))

    def adopt(self, ant, many):
        """An ant more, at that place."""
        self._done("adopt", adopted, (ant, many))

    def part(self, ant):
        """The ant is gone."""
        self._done("part", parted, (ant,))

    def pot(self, most):
        """A pot of such a size: told is what it doesn't hold any more."""
        return self._done("pot", potted, (most,))

    def undo(self):
        """The last deed that stands is as if it had never been: True; False where none does."""
        self._words.append(("in", "undo"))
        stood = len(self._ahead) > 0
        if stood:
            self._now = self._ahead.pop()
        self._words.append(("out", "undo"))
        return stood

    def hill(self):
        """The HILL."""
        return self._now[0]

    def state(self):
        """The STATE."""
        return self._now[1]

    def lost(self):
        """How much was lost in all deeds that stand."""
        return self._now[2]

    def gone(self):
        """How many turns are gone in all deeds that stand."""
        return self._now[3]

    def deeds(self):
        """How many deeds stand."""
        return len(self._ahead)

    def forecast(self, many):
        """The first so many losses from the STATE on."""
        return losses(self._now[0], self._now[1], many)

    def as_of(self, many):
        """A vine of its own as behind the first so many deeds that stand."""
        if not 0 <= many <= len(self._ahead):
            raise NoDeed(many)
        rows = self._ahead + [self._now]
        made = Vine(rows[many][0], rows[many][1])
        made._now = rows[many]
        made._ahead = rows[:many]
        return made

    def twin(self):
        """A vine of its own as behind all deeds that stand."""
        return self.as_of(len(self._ahead))

    def log(self):
        """The list of ("in", word) and ("out", word) of each deed, refused or not, undo too."""
        return list(self._words)

    def __eq__(self, other):
        return isinstance(other, Vine) and self._now == other._now

    def __len__(self):
        return len(self._now[0][1])

    def __repr__(self):
        return f"Vine({len(self._now[0][1])} ants, day {self._now[1][0]})"
