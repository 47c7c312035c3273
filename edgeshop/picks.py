"""Which tool to take for a work: the least worn one, by the told rule."""

from edgeshop.errors import BadQuestion, NoneServes
from edgeshop.events import need_history, standing, suits
from edgeshop.sets import pieces_of_whole
from edgeshop.stocks import HANDS, TOOLS, WORKS, need_box, need_named, need_time, need_works

MOST_WORKS = 8


def serving(stock, history, work, time):
    """The name and the STATE of each tool that SERVES a work at a TIME, those that go first ahead."""
    rows = []
    for tool in stock[TOOLS]:
        state, size = standing(history, tool, time)
        if suits(stock, tool, work, state, size):
            rows.append((tool[2] - size, size, tool[0], state))
    # Of equals, sorted leaves the one told first in TOOLS ahead.
    rows = sorted(rows, key=lambda row: (row[0], -row[1]))
    return [(name, state) for _, _, name, state in rows]


def may_be_taken(state, box, hand):
    """Whether a tool may be taken by its STATE: out of that box, out of any if it is None, or with that hand."""
    if state[0] == "hand":
        return state[1] == hand
    return state[0] == "box" and box in (None, state[1])


def need_wishes(stock, time, box, hand, spare):
    """Refuses a box and a hand that aren't there, then what is no TIME and no truth."""
    if box is not None:
        need_box(stock, box)
    if hand is not None:
        need_named(stock[HANDS], hand)
    need_time(time)
    if type(spare) is not bool:
        raise BadQuestion("spare is neither True nor False")


def choice(stock, history, work, time=999, box=None, hand=None, spare=False):
    """The names of the tools that can be taken for a work at a TIME, those that go first ahead."""
    need_history(stock, history)
    wanted = need_named(stock[WORKS], work)
    need_wishes(stock, time, box, hand, spare)
    spared = pieces_of_whole(stock, history, time) if spare else []
    rows = serving(stock, history, wanted, time)
    return [name for name, state in rows if may_be_taken(state, box, hand) and name not in spared]


def pick(stock, history, work, time=999, box=None, hand=None, spare=False):
    """The name of the tool to take for a work at a TIME."""
    names = choice(stock, history, work, time, box, hand, spare)
    if not names:
        raise NoneServes(work)
    return names[0]


def picks(stock, history, works, time=999):
    """The names of the tools to take for works at one TIME, one behind the other, none twice."""
    need_history(stock, history)
    wanted = need_works(stock, works, MOST_WORKS)
    need_time(time)
    found = []
    for work in wanted:
        rows = serving(stock, history, work, time)
        free = [name for name, state in rows if may_be_taken(state, None, None) and name not in found]
        if not free:
            raise NoneServes(work[0])
        found.append(free[0])
    return found
