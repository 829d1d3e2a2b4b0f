"""The refusals: each has its fields, and its own name as word.

The messages name no value: a number that was refused may be too great to be written out.
"""


class TideError(ValueError):
    """What was handed in is wrong, or can't be granted."""

    def __init__(self, word="TideError", why="refused"):
        ValueError.__init__(self, f"{word}: {why}")
        self.word = word


class BadBy(TideError):
    """A last tick that is none."""

    def __init__(self, by):
        TideError.__init__(self, "BadBy", "the last tick is a whole number from 1 to 1000")
        self.by = by


class BadName(TideError):
    """A name that is none."""

    def __init__(self, name):
        TideError.__init__(self, "BadName", "a name has one to eight small letters")
        self.name = name


class Taken(TideError):
    """A name that another point has."""

    def __init__(self, name):
        TideError.__init__(self, "Taken", "another point has this name")
        self.name = name


class Full(TideError):
    """One more than there may be."""

    def __init__(self, most):
        TideError.__init__(self, "Full", "there are as many as there may be")
        self.most = most


class BadLength(TideError):
    """Lengths of a span that are none."""

    def __init__(self, low, high):
        TideError.__init__(self, "BadLength", "these are no lengths of this span")
        self.low = low
        self.high = high


class BadLate(TideError):
    """A lateness of hearing that is none."""

    def __init__(self, late):
        TideError.__init__(self, "BadLate", "late is None or a whole number from 0 to 1000")
        self.late = late


class BadTie(TideError):
    """A tie of one point to itself, or with wrong bounds."""

    def __init__(self, least, most):
        TideError.__init__(self, "BadTie", "a tie has two points and bounds from -1000 to 1000")
        self.least = least
        self.most = most


class Used(TideError):
    """A point that a span or a tie still needs."""

    def __init__(self, name):
        TideError.__init__(self, "Used", "a span begins at this point, or a tie has it")
        self.name = name


class BadPaper(TideError):
    """A paper of a no that has a wrong row, or a wrong ring."""

    def __init__(self, row):
        TideError.__init__(self, "BadPaper", "a row or the ring of the paper is wrong")
        self.row = row


class BadKeeper(TideError):
    """A keeper that does what can't be done."""

    def __init__(self, tick):
        TideError.__init__(self, "BadKeeper", "the keeper's list has what can't be done")
        self.tick = tick


class BadPlan(TideError):
    """A plan that is none."""

    def __init__(self):
        TideError.__init__(self, "BadPlan", "this is no plan")


class BadText(TideError):
    """A text that nothing is written as."""

    def __init__(self, row):
        TideError.__init__(self, "BadText", "a line of the text can't stand there")
        self.row = row


class BadDeed(TideError):
    """A deed that is none."""

    def __init__(self, kind):
        TideError.__init__(self, "BadDeed", "this is no deed")
        self.kind = kind


class Unsteered(TideError):
    """A web that no keeper can keep in every weather."""

    def __init__(self):
        TideError.__init__(self, "Unsteered", "no keeper keeps this web in every weather")


class Missing(LookupError):
    """What was asked for is not there."""

    def __init__(self, word="Missing", why="refused"):
        LookupError.__init__(self, f"{word}: {why}")
        self.word = word


class NoMoment(Missing):
    """A name that no moment has."""

    def __init__(self, name):
        Missing.__init__(self, "NoMoment", "there is no such moment")
        self.name = name


class NoPoint(Missing):
    """A name that no point has."""

    def __init__(self, name):
        Missing.__init__(self, "NoPoint", "there is no such point")
        self.name = name


class NoSpan(Missing):
    """A name that no span's end has."""

    def __init__(self, name):
        Missing.__init__(self, "NoSpan", "there is no such span")
        self.name = name


class NoTie(Missing):
    """A place that no tie has."""

    def __init__(self, at):
        Missing.__init__(self, "NoTie", "there is no tie at this place")
        self.at = at


class NoDeed(Missing):
    """A number of deeds that were not done."""

    def __init__(self, at):
        Missing.__init__(self, "NoDeed", "there are not so many deeds")
        self.at = at


class RunFault(RuntimeError):
    """What can't be done or heard at this tick of a run."""

    def __init__(self, word="RunFault", why="refused"):
        RuntimeError.__init__(self, f"{word}: {why}")
        self.word = word


class Done(RunFault):
    """What was done or heard already."""

    def __init__(self, name):
        RunFault.__init__(self, "Done", "this was done or heard already")
        self.name = name


class TooEarly(RunFault):
    """A moment that may not be done yet."""

    def __init__(self, name, tick):
        RunFault.__init__(self, "TooEarly", "this may not be done yet")
        self.name = name
        self.tick = tick


class TooLate(RunFault):
    """What had to come ahead of this."""

    def __init__(self, name, tick):
        RunFault.__init__(self, "TooLate", "it is too late for this in this tick")
        self.name = name
        self.tick = tick


class Unbegun(RunFault):
    """An end whose begin isn't done."""

    def __init__(self, name):
        RunFault.__init__(self, "Unbegun", "the begin of this span isn't done")
        self.name = name


class Unheard(RunFault):
    """An end that must be heard first."""

    def __init__(self, name):
        RunFault.__init__(self, "Unheard", "this end must be heard first")
        self.name = name


class BadNews(RunFault):
    """An end that can't be heard at this tick."""

    def __init__(self, name, tick):
        RunFault.__init__(self, "BadNews", "this end can't be heard at this tick")
        self.name = name
        self.tick = tick


class Over(RunFault):
    """A run in which nothing is left."""

    def __init__(self, tick):
        RunFault.__init__(self, "Over", "nothing is left to be done or heard")
        self.tick = tick


class NothingBack(IndexError):
    """Nothing to be taken back, or to be done again."""

    def __init__(self):
        IndexError.__init__(self, "NothingBack: there is nothing to take back or do again")
        self.word = "NothingBack"
