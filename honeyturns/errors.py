"""The refusals, each straight under the class that a caller may catch it by."""


class Unlike(ValueError):
    """Two things that go together only when they are alike in something aren't."""


class Barren(ValueError):
    """No drop would be left in the whole year."""


class BadText(ValueError):
    """A text isn't a hill's: the row where that shows, or how many rows there are."""

    def __init__(self, row):
        self.row = row


class BadRow(ValueError):
    """A desk's text isn't so written: the row where that shows, or how many rows there are."""

    def __init__(self, row):
        self.row = row


class NoDay(LookupError):
    """The year has no day of that number."""

    def __init__(self, day):
        self.day = day


class NoAnt(LookupError):
    """The hill has no ant of that number, or no such place for one."""

    def __init__(self, ant):
        self.ant = ant


class NoDeed(LookupError):
    """So many deeds don't stand."""

    def __init__(self, many):
        self.many = many


class Already(RuntimeError):
    """The day is already as it was asked to be."""

    def __init__(self, day):
        self.day = day


class Today(RuntimeError):
    """The vine stands on such a day."""

    def __init__(self, day):
        self.day = day


class Last(RuntimeError):
    """The only ant can't go."""


class Dry(ArithmeticError):
    """The pot holds fewer drops than were asked of it: as many as told."""

    def __init__(self, held):
        self.held = held
