"""What a found one can be, what boxes hold, and which of them are alike."""

from edgeshop.events import need_history, standing
from edgeshop.stocks import BOXES, KINDS, TOOLS, need_box, need_named, need_size, need_time


def can_be(stock, history, kind, size, time=999):
    """The names of the tools that what is found of a KIND and a SIZE at a TIME CAN BE."""
    need_history(stock, history)
    need_named(stock[KINDS], kind)
    need_size(size)
    need_time(time)
    mine = [tool for tool in stock[TOOLS] if tool[1] == kind]
    return [tool[0] for tool in mine if standing(history, tool, time) == (("lost",), size)]


def held_in(stock, history, box, time):
    """The KIND and the SIZE of each tool in a box at a TIME, rising."""
    rows = []
    for tool in stock[TOOLS]:
        state, size = standing(history, tool, time)
        if state == ("box", box):
            rows.append((tool[1], size))
    return sorted(rows)


class Contents:
    """What a box HOLDS, as it was when it was asked for."""

    def __init__(self, stock, history, box, time=999):
        need_history(stock, history)
        need_box(stock, box)
        self._held = held_in(stock, history, box, need_time(time))

    def rows(self):
        """Each KIND and SIZE once, with how many tools there are of it, rising."""
        return [(kind, size, self._held.count((kind, size))) for kind, size in sorted(set(self._held))]

    def __len__(self):
        return len(self._held)

    def __eq__(self, other):
        return isinstance(other, Contents) and self._held == other._held

    def __str__(self):
        return ", ".join([f"{kind} {size}" for kind, size in self._held])


def alike_boxes(stock, history, time=999):
    """The boxes' names in lists, each of all that HOLD the same at a TIME."""
    need_history(stock, history)
    need_time(time)
    alike = {}
    for box in stock[BOXES]:
        alike.setdefault(tuple(held_in(stock, history, box, time)), []).append(box)
    return list(alike.values())
