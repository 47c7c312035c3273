"""A shop: a stock and what happened, kept over calls, told late as in time."""

from edgeshop.deeds import is_deed, news_of
from edgeshop.errors import BadDeed, NoEvent
from edgeshop.events import holds, need_history, size_of, state_of
from edgeshop.eventtexts import event_text
from edgeshop.found import can_be
from edgeshop.lives import Life
from edgeshop.picks import pick
from edgeshop.sets import pieces_lacking
from edgeshop.stocks import TOOLS, need_box, need_stock


class Shop:
    """A STOCK and a HISTORY that HOLDS; its deeds can be undone, the last one first."""

    def __init__(self, stock):
        self._stock = need_stock(stock)
        self._history = ()
        # The histories ahead of each deed that stands: to undo one is to take the last of them.
        self._past = []

    def do(self, deed):
        """Does a deed and tells its NEWS; of found ahead of these what it CAN BE."""
        if not is_deed(deed):
            raise BadDeed("no deed")
        word, *parts = deed
        if word == "tell":
            return self._stand(self._history + (parts[0],))
        if word == "take":
            return self._stand(self._without(parts[0]))
        if word == "found":
            return self._settle(*parts)
        return self._step_back()

    def _stand(self, history):
        """Goes on with another history, if that holds; tells the NEWS."""
        need_history(self._stock, history)
        news = news_of(self._stock, self._history, history)
        self._past.append(self._history)
        self._history = history
        return news

    def _without(self, number):
        """The history without the event of that number."""
        if number >= len(self._history):
            raise NoEvent(number)
        return self._history[:number] + self._history[number + 1:]

    def _settle(self, time, kind, size, box):
        """Tells that a tool is found, if it can be just one and the history then holds."""
        names = can_be(self._stock, self._history, kind, size, time)
        need_box(self._stock, box)
        if len(names) == 1:
            history = self._history + ((time, "find", names[0], box),)
            if holds(self._stock, history):
                return names, self._stand(history)
        return names, []

    def _step_back(self):
        """Undoes the last deed that stands; tells the NEWS."""
        if not self._past:
            raise BadDeed("nothing stands to be undone")
        history = self._past.pop()
        news = news_of(self._stock, self._history, history)
        self._history = history
        return news

    def tell(self, event):
        """Tells an event."""
        return self.do(("tell", event))

    def take(self, number):
        """Takes an event out."""
        return self.do(("take", number))

    def found(self, time, kind, size, box):
        """Tells that a tool of a KIND and a SIZE is found."""
        return self.do(("found", time, kind, size, box))

    def undo(self):
        """Undoes the last deed that stands."""
        return self.do(("undo",))

    def stock(self):
        """The STOCK."""
        return self._stock

    def history(self):
        """The EVENTS, as they were told."""
        return self._history

    def in_time(self):
        """The EVENTS by rising TIME, those of one TIME in the order of TOOLS."""
        events = [event for tool in self._stock[TOOLS] for event in self._history if event[2] == tool[0]]
        # Of one TIME, sorted leaves them in the order that they have here.
        return tuple(sorted(events, key=lambda event: event[0]))

    def many(self):
        """How many deeds could be undone."""
        return len(self._past)

    def life(self, tool):
        """The LIFE of a tool."""
        return Life(self._stock, self._history, tool)

    def pick(self, work, time=999, box=None, hand=None, spare=False):
        """The name of the tool to take for a work at a TIME."""
        return pick(self._stock, self._history, work, time, box, hand, spare)

    def state_of(self, tool, time=999):
        """The STATE of a tool at a TIME."""
        return state_of(self._stock, self._history, tool, time)

    def size_of(self, tool, time=999):
        """The SIZE of a tool at a TIME."""
        return size_of(self._stock, self._history, tool, time)

    def lacking(self, name, time=999):
        """The PIECES that a set lacks at a TIME, each with its STATE."""
        return pieces_lacking(self._stock, self._history, name, time)

    def copy(self):
        """A shop that stands likewise, and goes on by itself."""
        other = Shop(self._stock)
        other._history = self._history
        other._past = list(self._past)
        return other

    def __len__(self):
        return len(self._history)

    def __eq__(self, other):
        return isinstance(other, Shop) and self._stock == other._stock and self.in_time() == other.in_time()

    def __str__(self):
        return "\n".join([event_text(event) for event in self.in_time()])
