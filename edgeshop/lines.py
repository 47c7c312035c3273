"""The lines that are said at a desk: which words stand in them, how many and of which forms."""

from edgeshop.events import MOST_EVENTS, is_event_form
from edgeshop.eventtexts import read_event
from edgeshop.plans import MOST_WORKS
from edgeshop.stocks import LAST_TIME, is_name, is_number, is_size, is_time
from edgeshop.stocktexts import read_word

# Each first word with the forms of the words behind it; "end" is a TIME that may be left out.
FORMS = {
    "take": ("number",),
    "found": ("time", "name", "size", "name"),
    "undo": (),
    "stock": (),
    "history": (),
    "where": ("name", "end"),
    "life": ("name",),
    "box": ("name", "end"),
    "hand": ("name", "end"),
    "bench": ("name", "end"),
    "lost": ("end",),
    "stone": ("end",),
    "pick": ("name", "end"),
    "set": ("name", "end"),
    "can": ("name", "size", "end"),
    "alike": ("end",),
}


def has_form(form, part):
    """Whether what a word tells is of that form."""
    if form == "name":
        return is_name(part)
    if form == "number":
        return is_number(part, MOST_EVENTS - 1)
    if form == "size":
        return is_size(part)
    return is_time(part)


def forms_behind(word, many):
    """The forms of the words behind a first one, of which there are so many; None of no first word."""
    if word == "new":
        return ("name",) * min(many, MOST_WORKS)
    return FORMS.get(word)


def read_question(line):
    """What the words of a line tell, that is no row of an event; else None."""
    word, *rest = line.split(" ")
    parts = [read_word(one) for one in rest]
    forms = forms_behind(word, len(parts))
    if forms is None:
        return None
    if forms[-1:] == ("end",) and len(parts) == len(forms) - 1:
        parts.append(LAST_TIME)
    if len(parts) != len(forms) or not all([has_form(form, part) for form, part in zip(forms, parts)]):
        return None
    return [word, *parts]


def read_line(line):
    """What a line tells: its first word, "tell" of the row of an event, and what stands behind; None of no line."""
    if type(line) is not str:
        return None
    event = read_event(line)
    if is_event_form(event):
        return ["tell", event]
    return read_question(line)
