"""The stock of a shop: eight sorts of things, and what each of them may be."""

from edgeshop.errors import BadQuestion, BadStock, NoSuch

KINDS = 0
BOXES = 1
TOOLS = 2
HANDS = 3
SETS = 4
GAUGES = 5
WORKS = 6
KEEPS = 7

SORTS = ("kind", "box", "tool", "hand", "set", "gauge", "work", "keep")
FEWEST = (1, 0, 0, 0, 0, 0, 0, 0)
MOST = (6, 5, 12, 5, 4, 3, 8, 6)

LAST_TIME = 999
LAST_SIZE = 99


def is_number(thing, last):
    """Whether it is a number from 0 to the last one."""
    return type(thing) is int and 0 <= thing <= last


def is_time(thing):
    """Whether it is a TIME."""
    return is_number(thing, LAST_TIME)


def is_size(thing):
    """Whether it is a SIZE."""
    return is_number(thing, LAST_SIZE)


def is_name(thing):
    """Whether it is a NAME."""
    if type(thing) is not str or not 1 <= len(thing) <= 8:
        return False
    return all(["a" <= sign <= "z" for sign in thing])


def is_row(thing, many):
    """Whether it is a tuple of so many."""
    return type(thing) is tuple and len(thing) == many


def named(things, name):
    """The first of the things that begins with the name, or None; the name may be anything."""
    # A thing of another kind is not compared: it may answer == as it likes.
    if type(name) is not str:
        return None
    for thing in things:
        if thing[0] == name:
            return thing
    return None


def has_box(stock, name):
    """Whether a box has that name; it may be anything."""
    return type(name) is str and name in stock[BOXES]


def set_with(stock, tool):
    """The name of the set that has the tool among its PIECES, or None."""
    for name, pieces in stock[SETS]:
        if tool in pieces:
            return name
    return None


def is_new(things, name):
    """Whether it is a NAME that none of the things has."""
    return is_name(name) and named(things, name) is None


# What these look at is told ahead: a stock, or eight lists of what stands in it up to here.


def is_kind(ahead, thing):
    """Whether it can be the next of KINDS."""
    return is_row(thing, 2) and is_new(ahead[KINDS], thing[0]) and is_size(thing[1])


def is_box(ahead, thing):
    """Whether it can be the next of BOXES."""
    return is_name(thing) and thing not in ahead[BOXES]


def is_tool(ahead, thing):
    """Whether it can be the next of TOOLS."""
    if not is_row(thing, 4) or not is_new(ahead[TOOLS], thing[0]):
        return False
    kind = named(ahead[KINDS], thing[1])
    if kind is None or not is_size(thing[2]) or thing[2] < kind[1]:
        return False
    return has_box(ahead, thing[3])


def is_hand(ahead, thing):
    """Whether it can be the next of HANDS."""
    return is_row(thing, 2) and is_new(ahead[HANDS], thing[0]) and is_name(thing[1])


def is_set(ahead, thing):
    """Whether it can be the next of SETS."""
    if not is_row(thing, 2) or not is_new(ahead[SETS], thing[0]):
        return False
    pieces = thing[1]
    if type(pieces) is not tuple or not 1 <= len(pieces) <= 5:
        return False
    for piece in pieces:
        if named(ahead[TOOLS], piece) is None or set_with(ahead, piece) is not None:
            return False
    return len(set(pieces)) == len(pieces)


def is_range(ahead, sort, thing):
    """Whether it can be the next of GAUGES or WORKS: both tell sizes of a kind."""
    if not is_row(thing, 4) or not is_new(ahead[sort], thing[0]):
        return False
    if named(ahead[KINDS], thing[1]) is None:
        return False
    return is_size(thing[2]) and is_size(thing[3]) and thing[2] <= thing[3]


def is_gauge(ahead, thing):
    """Whether it can be the next of GAUGES."""
    return is_range(ahead, GAUGES, thing)


def is_work(ahead, thing):
    """Whether it can be the next of WORKS."""
    return is_range(ahead, WORKS, thing)


def is_keep(ahead, thing):
    """Whether it can be the next of KEEPS."""
    if not is_row(thing, 2):
        return False
    tool = named(ahead[TOOLS], thing[0])
    work = named(ahead[WORKS], thing[1])
    if tool is None or work is None:
        return False
    return tool[1] == work[1] and named(ahead[KEEPS], tool[0]) is None


FITS = (is_kind, is_box, is_tool, is_hand, is_set, is_gauge, is_work, is_keep)


def fits(ahead, sort, thing):
    """Whether the thing can be the next of its sort, however many there may be of it."""
    fit = FITS[sort]
    return fit(ahead, thing)


def is_stock_form(thing):
    """Whether it is eight tuples of so many things."""
    if not is_row(thing, len(SORTS)):
        return False
    for sort, things in enumerate(thing):
        if type(things) is not tuple or not FEWEST[sort] <= len(things) <= MOST[sort]:
            return False
    return True


def stock_fault(thing):
    """The place by which it is no STOCK, or None."""
    if not is_stock_form(thing):
        return ("form",)
    ahead = [[] for _ in SORTS]
    for sort, things in enumerate(thing):
        for number, one in enumerate(things):
            if not fits(ahead, sort, one):
                return (SORTS[sort], number)
            ahead[sort].append(one)
    return None


def need_stock(thing):
    """The thing itself, a STOCK; else BadStock."""
    place = stock_fault(thing)
    if place is not None:
        raise BadStock(place)
    return thing


def need_named(things, name):
    """The thing of that name; else NoSuch."""
    thing = named(things, name)
    if thing is None:
        raise NoSuch(name)
    return thing


def need_box(stock, name):
    """The name itself, a box's; else NoSuch."""
    if not has_box(stock, name):
        raise NoSuch(name)
    return name


def hands_at(stock, bench):
    """The names of the hands at a bench, in their order; the bench may be anything."""
    if type(bench) is not str:
        return []
    return [hand for hand, its in stock[HANDS] if its == bench]


def need_time(time):
    """The time itself, a TIME; else BadQuestion."""
    if not is_time(time):
        raise BadQuestion("no time from 0 to 999")
    return time


def need_size(size):
    """The size itself, a SIZE; else BadQuestion."""
    if not is_size(size):
        raise BadQuestion("no size from 0 to 99")
    return size


def need_works(stock, works, most):
    """The works of a tuple of names, so many at most; else BadQuestion, then NoSuch."""
    if type(works) is not tuple or len(works) > most:
        raise BadQuestion("no tuple of so many works")
    return [need_named(stock[WORKS], name) for name in works]


def tool_of(stock, name):
    """The tool of that name, as it stands in the stock."""
    return need_named(need_stock(stock)[TOOLS], name)


def work_of(stock, name):
    """The work of that name, as it stands in the stock."""
    return need_named(need_stock(stock)[WORKS], name)


def kind_of(stock, name):
    """The kind of that name, as it stands in the stock."""
    return need_named(need_stock(stock)[KINDS], name)


def bench_of(stock, hand):
    """The bench of a hand."""
    return need_named(need_stock(stock)[HANDS], hand)[1]


def benches(stock):
    """The benches, rising, each with its hands in their order."""
    names = sorted(set([bench for _, bench in need_stock(stock)[HANDS]]))
    return {name: hands_at(stock, name) for name in names}


def set_of(stock, tool):
    """The name of the set that the tool is a piece of, or None."""
    name = tool_of(stock, tool)[0]
    return set_with(stock, name)


def kept_for(stock, tool):
    """The name of the work that the tool is kept for, or None."""
    name = tool_of(stock, tool)[0]
    keep = named(stock[KEEPS], name)
    return None if keep is None else keep[1]
