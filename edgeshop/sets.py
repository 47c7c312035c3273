"""The sets that must stay whole, what they lack, and the gauges that stand in."""

from edgeshop.events import need_history, standing
from edgeshop.stocks import GAUGES, SETS, TOOLS, named, need_named, need_time


def lacking(stock, history, pieces, time):
    """Those of the PIECES that lack, each as its tool, its STATE and its SIZE then."""
    rows = []
    for piece in pieces:
        tool = named(stock[TOOLS], piece)
        state, size = standing(history, tool, time)
        if state[0] != "box":
            rows.append((tool, state, size))
    return rows


def need_lacking(stock, history, name, time):
    """What the set of that name lacks, with the refusals of all questions about a set."""
    need_history(stock, history)
    pieces = need_named(stock[SETS], name)[1]
    return lacking(stock, history, pieces, need_time(time))


def pieces_lacking(stock, history, name, time=999):
    """The PIECES that a set lacks at a TIME, each with its STATE."""
    return [(tool[0], state) for tool, state, _ in need_lacking(stock, history, name, time)]


def is_whole_set(stock, history, name, time=999):
    """Whether a set lacks nothing at a TIME."""
    return need_lacking(stock, history, name, time) == []


def pieces_of_whole(stock, history, time):
    """The PIECES of all sets that are WHOLE at a TIME."""
    found = []
    for _, pieces in stock[SETS]:
        if not lacking(stock, history, pieces, time):
            found.extend(pieces)
    return found


def gauges_for(stock, kind, size):
    """The names of the GAUGES that can STAND IN for a piece of that kind and size."""
    return [name for name, its, low, high in stock[GAUGES] if its == kind and low <= size <= high]


def standing_in(way):
    """How many GAUGES a way has: "" is none."""
    return len(way) - way.count("")


def best_way(fitting, taken):
    """The GAUGE of each piece, "" of none, by the lists of those that fit; what is taken stands in no more."""
    if not fitting:
        return []
    ways = []
    for gauge in [one for one in fitting[0] if one not in taken] + [""]:
        ways.append([gauge] + best_way(fitting[1:], taken + [gauge]))
    # Of ways with as many, max tells the first: here the one in which the piece has what is told first.
    return max(ways, key=standing_in)


def stand_ins(stock, history, name, time=999):
    """The PIECES that a set lacks at a TIME, each with the GAUGE that stands in, or ""."""
    rows = need_lacking(stock, history, name, time)
    pieces = [tool[0] for tool, _, _ in rows]
    fitting = [gauges_for(stock, tool[1], size) for tool, _, size in rows]
    return list(zip(pieces, best_way(fitting, [])))
