"""The life of a tool: where it was and of which size, from the first TIME to the last."""

from edgeshop.errors import BadQuestion
from edgeshop.events import at_first, events_of, is_word, moved, need_tool
from edgeshop.stocks import LAST_TIME, need_time


def spans_of(tool, events):
    """The SPANS of a tool, by its events by rising TIME."""
    spans = []
    start = 0
    state, size = at_first(tool)
    # Each event leaves another STATE than it finds, so no two SPANS side by side are to be one.
    for event in events:
        time = event[0]
        # Not so of an event of TIME 0 alone: nothing of what was ahead of it is left.
        if time > start:
            spans.append((start, time - 1, state, size))
        start = time
        state, size = moved(size, event)
    spans.append((start, LAST_TIME, state, size))
    return spans


def span_text(span):
    """A SPAN as a text."""
    start, last, state, size = span
    words = " ".join(state)
    return f"{start} to {last} {words} {size}"


class Life:
    """The LIFE of a tool, as it was when it was asked for."""

    def __init__(self, stock, history, tool):
        found = need_tool(stock, history, tool)
        events = events_of(history, tool)
        self._spans = spans_of(found, events)
        self._words = [event[1] for event in events]

    def spans(self):
        """The SPANS, by rising TIME."""
        return list(self._spans)

    def at(self, time=999):
        """The STATE and SIZE at a TIME."""
        need_time(time)
        begun = [span for span in self._spans if span[0] <= time]
        _, _, state, size = begun[-1]
        return state, size

    def many(self, word):
        """How many of its events have that word."""
        if not is_word(word):
            raise BadQuestion("no word of an event")
        return self._words.count(word)

    def __len__(self):
        return len(self._spans)

    def __eq__(self, other):
        return isinstance(other, Life) and self._spans == other._spans

    def __str__(self):
        return "; ".join([span_text(span) for span in self._spans])

    def __repr__(self):
        return f"Life({self})"
