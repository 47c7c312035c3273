"""What happened to the tools: histories, and where they leave each tool."""

from edgeshop.errors import BadHistory, NoSuch
from edgeshop.stocks import HANDS, KEEPS, KINDS, TOOLS, WORKS, hands_at, has_box, is_name, is_row, is_time
from edgeshop.stocks import named, need_box, need_named, need_stock, need_time

MOST_EVENTS = 60

# Each word of an event, with the first words of the states that it may find ..
FINDS = {
    "lend": ("box",),
    "pass": ("hand",),
    "back": ("hand",),
    "sharp": ("stone",),
    "find": ("lost",),
    "stone": ("box", "hand"),
    "lose": ("box", "hand"),
}

# .. and the first word of the state that it leaves.
LEAVES = {
    "lend": "hand",
    "pass": "hand",
    "back": "box",
    "sharp": "box",
    "find": "box",
    "stone": "stone",
    "lose": "lost",
}


def is_word(thing):
    """Whether it is one of the words of events."""
    return type(thing) is str and thing in LEAVES


def is_where_form(word, where):
    """Whether an event of that word can have that WHERE, but for a name that isn't there."""
    if LEAVES[word] in ("hand", "box"):
        return is_name(where)
    return type(where) is str and where == ""


def is_event_form(thing):
    """Whether it is an EVENT, but for names that aren't there."""
    if not is_row(thing, 4):
        return False
    time, word, tool, where = thing
    if not is_time(time) or not is_word(word) or not is_name(tool):
        return False
    return is_where_form(word, where)


def has_where(stock, word, where):
    """Whether the WHERE of an event by form is there."""
    if LEAVES[word] == "hand":
        return named(stock[HANDS], where) is not None
    return where == "" or has_box(stock, where)


def is_event(stock, thing):
    """Whether it is an EVENT."""
    if not is_event_form(thing):
        return False
    _, word, tool, where = thing
    return named(stock[TOOLS], tool) is not None and has_where(stock, word, where)


def need_names(stock, event):
    """The event by form itself; NoSuch of the first name in it that isn't there."""
    _, word, tool, where = event
    need_named(stock[TOOLS], tool)
    if not has_where(stock, word, where):
        raise NoSuch(where)
    return event


def first_twice(history):
    """The number of the first event of one tool and TIME with one ahead, or None."""
    seen = set()
    for number, (time, _, tool, _) in enumerate(history):
        if (tool, time) in seen:
            return number
        seen.add((tool, time))
    return None


def events_of(history, tool):
    """The events of a tool by rising TIME."""
    return sorted([event for event in history if event[2] == tool], key=lambda event: event[0])


def at_first(tool):
    """The STATE and SIZE of a tool ahead of all events."""
    return ("box", tool[3]), tool[2]


def moved(size, event):
    """The STATE and SIZE as an event leaves them, by the SIZE ahead of it."""
    _, word, _, where = event
    state = (LEAVES[word],) if where == "" else (LEAVES[word], where)
    return state, (size - 1 if word == "sharp" else size)


def can_stand(least, state, size, event):
    """Whether an event finds its tool as its word wants it."""
    _, word, _, where = event
    if state[0] not in FINDS[word]:
        return False
    if word == "pass":
        return state[1] != where
    return word != "stone" or size != least


def first_unheld(stock, history, tool):
    """The first event by TIME of a tool that can't stand, or None."""
    least = named(stock[KINDS], tool[1])[1]
    state, size = at_first(tool)
    for event in events_of(history, tool[0]):
        if not can_stand(least, state, size, event):
            return event
        state, size = moved(size, event)
    return None


def unheld_number(stock, history):
    """The number of the event by which a history doesn't hold, or None."""
    firsts = [first_unheld(stock, history, tool) for tool in stock[TOOLS]]
    found = [(event[0], history.index(event)) for event in firsts if event is not None]
    return min(found)[1] if found else None


def history_fault(stock, thing):
    """The place by which it is no HISTORY that HOLDS for the stock, or None."""
    if type(thing) is not tuple or len(thing) > MOST_EVENTS:
        return ("form", -1)
    for number, event in enumerate(thing):
        if not is_event(stock, event):
            return ("form", number)
    twice = first_twice(thing)
    if twice is not None:
        return ("twice", twice)
    unheld = unheld_number(stock, thing)
    return None if unheld is None else ("holds", unheld)


def need_history(stock, thing):
    """The thing itself, a HISTORY that HOLDS; else BadHistory."""
    place = history_fault(need_stock(stock), thing)
    if place is not None:
        raise BadHistory(place)
    return thing


def holds(stock, thing):
    """Whether it is a HISTORY that HOLDS for the stock."""
    return history_fault(need_stock(stock), thing) is None


def standing(history, tool, time):
    """The STATE and SIZE of a tool at a TIME."""
    state, size = at_first(tool)
    for event in events_of(history, tool[0]):
        if event[0] <= time:
            state, size = moved(size, event)
    return state, size


def need_tool(stock, history, tool):
    """The tool of that name, of a stock and a history that aren't refused."""
    need_history(stock, history)
    return need_named(stock[TOOLS], tool)


def state_of(stock, history, tool, time=999):
    """The STATE of a tool at a TIME."""
    found = need_tool(stock, history, tool)
    return standing(history, found, need_time(time))[0]


def size_of(stock, history, tool, time=999):
    """The SIZE of a tool at a TIME."""
    found = need_tool(stock, history, tool)
    return standing(history, found, need_time(time))[1]


def all_states(stock, history, time=999):
    """The STATE of each tool at a TIME, by their names."""
    need_history(stock, history)
    need_time(time)
    return {tool[0]: standing(history, tool, time)[0] for tool in stock[TOOLS]}


def tools_in(stock, history, states, time):
    """The names of the tools that are in one of the STATEs at a TIME; only the TIME may be none."""
    need_time(time)
    return [tool[0] for tool in stock[TOOLS] if standing(history, tool, time)[0] in states]


def held_by(stock, history, hand, time=999):
    """The names of the tools with a hand at a TIME."""
    need_history(stock, history)
    need_named(stock[HANDS], hand)
    return tools_in(stock, history, [("hand", hand)], time)


def at_bench(stock, history, bench, time=999):
    """The names of the tools with hands of a bench at a TIME."""
    need_history(stock, history)
    hands = hands_at(stock, bench)
    if not hands:
        raise NoSuch(bench)
    return tools_in(stock, history, [("hand", hand) for hand in hands], time)


def in_box(stock, history, box, time=999):
    """The names of the tools in a box at a TIME."""
    need_history(stock, history)
    need_box(stock, box)
    return tools_in(stock, history, [("box", box)], time)


def at_stone(stock, history, time=999):
    """The names of the tools at the stone at a TIME."""
    need_history(stock, history)
    return tools_in(stock, history, [("stone",)], time)


def lost_ones(stock, history, time=999):
    """The names of the tools that are lost at a TIME."""
    need_history(stock, history)
    return tools_in(stock, history, [("lost",)], time)


def suits(stock, tool, work, state, size):
    """Whether a tool SERVES a work while its STATE and SIZE are these."""
    name, kind, low, high = work
    if tool[1] != kind or state == ("lost",) or not low <= size <= high:
        return False
    keep = named(stock[KEEPS], tool[0])
    return keep is None or keep[1] == name


def serves(stock, history, tool, work, time=999):
    """Whether a tool serves a work at a TIME."""
    found = need_tool(stock, history, tool)
    wanted = need_named(stock[WORKS], work)
    state, size = standing(history, found, need_time(time))
    return suits(stock, found, wanted, state, size)


def who_had(stock, history, tool):
    """The names of the hands that had a tool, one behind the other, each time anew."""
    need_tool(stock, history, tool)
    return [where for _, word, _, where in events_of(history, tool) if LEAVES[word] == "hand"]
