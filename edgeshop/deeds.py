"""Deeds in a shop: what they may be by their form, and the news of what they change."""

from edgeshop.events import MOST_EVENTS, events_of, is_event_form
from edgeshop.lives import spans_of
from edgeshop.stocks import TOOLS, is_name, is_number, is_size, is_time


def is_found_form(parts):
    """Whether these can stand behind "found"."""
    if len(parts) != 4:
        return False
    time, kind, size, box = parts
    return is_time(time) and is_name(kind) and is_size(size) and is_name(box)


def is_deed(thing):
    """Whether it is a DEED by its form."""
    if type(thing) is not tuple or len(thing) == 0 or type(thing[0]) is not str:
        return False
    word, *parts = thing
    if word == "tell":
        return len(parts) == 1 and is_event_form(parts[0])
    if word == "take":
        return len(parts) == 1 and is_number(parts[0], MOST_EVENTS - 1)
    if word == "found":
        return is_found_form(parts)
    return word == "undo" and len(parts) == 0


def at_each_time(history, tool):
    """The STATE and the SIZE of a tool at each TIME."""
    spans = spans_of(tool, events_of(history, tool[0]))
    return [(state, size) for start, last, state, size in spans for _ in range(start, last + 1)]


def unlike_times(before, after, tool):
    """The TIMEs at which two histories tell something else of a tool."""
    pairs = list(zip(at_each_time(before, tool), at_each_time(after, tool)))
    return [time for time, (was, now) in enumerate(pairs) if was != now]


def news_of(stock, before, after):
    """The NEWS where one history comes behind another one."""
    news = []
    for tool in stock[TOOLS]:
        times = unlike_times(before, after, tool)
        if times:
            news.append((tool[0], times[0], times[-1]))
    return news
