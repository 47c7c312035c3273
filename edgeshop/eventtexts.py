"""The text of a history: a row for each event, as they were told."""

from edgeshop.errors import BadText
from edgeshop.events import MOST_EVENTS, is_event, need_history, unheld_number
from edgeshop.stocks import need_stock
from edgeshop.stocktexts import read_word


def event_text(event):
    """The row of an event."""
    time, word, tool, where = event
    row = f"{time} {word} {tool}"
    return row if where == "" else f"{row} {where}"


def history_text(stock, history):
    """The history as a text."""
    need_history(stock, history)
    return "\n".join([event_text(event) for event in history])


def read_event(row):
    """The event that a row tells, or None; its words and names needn't be any."""
    words = row.split(" ")
    if len(words) == 3:
        words.append("")
    # Else a blank behind a row without WHERE would tell one that is "".
    elif len(words) != 4 or words[3] == "":
        return None
    return (read_word(words[0]), *words[1:])


def read_events(stock, rows):
    """The events that rows tell, whether these hold or not."""
    events = []
    seen = set()
    for number, row in enumerate(rows):
        event = read_event(row)
        if number >= MOST_EVENTS or not is_event(stock, event):
            raise BadText(number)
        time, _, tool, _ = event
        if (tool, time) in seen:
            raise BadText(number)
        seen.add((tool, time))
        events.append(event)
    return tuple(events)


def read_history(stock, text):
    """The history that a text tells."""
    need_stock(stock)
    if type(text) is not str:
        raise BadText(-1)
    if text == "":
        return ()
    history = read_events(stock, text.split("\n"))
    unheld = unheld_number(stock, history)
    if unheld is not None:
        raise BadText(unheld)
    return history
