"""The log: a web under deeds that can be taken back and done again."""

from tidewaiter.checks import is_whole
from tidewaiter.deeds import need_deed, with_deed
from tidewaiter.errors import BadDeed, NoDeed, NothingBack
from tidewaiter.settle import settled
from tidewaiter.web import BY, Web


class Log:
    """What was done to a web.

    done has for each deed or dealing the tuple of its deeds, webs the first web and then the web behind each of them,
    and undone pairs of such a tuple and its web: what was taken back, the last one to be done again first.
    """

    def __init__(self, by=BY):
        self.webs = [Web(by)]
        self.done = []
        self.undone = []

    def do(self, deed):
        """Does a deed, and tells the web behind it."""
        need_deed(deed)
        return do_whole(self, (deed,))

    def deal(self, deeds):
        """Does a list of deeds as one, whole or not at all, and tells the web behind it."""
        for deed in deeds:
            need_deed(deed)
        if len(deeds) < 2:
            raise BadDeed("")
        return do_whole(self, tuple(deeds))

    def now(self):
        """The web as it stands."""
        return self.webs[-1]

    def answer(self):
        """Whether the web is steered, with its table or paper."""
        return settled(self.now())

    def deeds(self):
        """What stands done, a dealing as a list."""
        return [as_told(deeds) for deeds in self.done]

    def undo(self):
        """Takes the last deed or dealing back, and tells it."""
        if len(self.done) == 0:
            raise NothingBack()
        deeds = self.done.pop()
        self.undone.append((deeds, self.webs.pop()))
        return as_told(deeds)

    def redo(self):
        """Does again what was taken back last, and tells it."""
        if len(self.undone) == 0:
            raise NothingBack()
        deeds, web = self.undone.pop()
        self.done.append(deeds)
        self.webs.append(web)
        return as_told(deeds)

    def as_of(self, count):
        """The web behind so many deeds."""
        if not is_whole(count, 0, len(self.done)):
            raise NoDeed(count)
        return self.webs[count]

    def twin(self):
        """Another log that stands alike, with all that can be undone and done again."""
        other = Log()
        other.webs = list(self.webs)
        other.done = list(self.done)
        other.undone = list(self.undone)
        return other

    def __len__(self):
        return len(self.done)


def do_whole(log, deeds):
    """Does some deeds as one, and tells the web behind them."""
    web = log.now()
    for deed in deeds:
        web = with_deed(web, deed)
    log.done.append(deeds)
    log.webs.append(web)
    log.undone = []
    return web


def as_told(deeds):
    """A deed, or the deeds of a dealing as a list."""
    return deeds[0] if len(deeds) == 1 else list(deeds)
