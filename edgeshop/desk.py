"""A desk: a shop that is told and asked by lines, and answers by texts."""

from edgeshop.errors import BadDeed, BadHistory, NoEvent, NoneServes, NoSuch
from edgeshop.events import at_bench, at_stone, held_by, in_box, lost_ones, need_names
from edgeshop.eventtexts import event_text
from edgeshop.found import alike_boxes, can_be
from edgeshop.lines import read_line
from edgeshop.plans import fewest, plan_for
from edgeshop.sets import stand_ins
from edgeshop.shop import Shop
from edgeshop.stocks import BOXES
from edgeshop.stocktexts import read_stock, stock_text


def spaced(parts):
    """Parts as words with one blank between."""
    return " ".join([str(part) for part in parts])


def names_text(names):
    """Names as a text."""
    return spaced(names) if names else "none"


def rows_text(rows):
    """Rows, each of its parts, as a text."""
    return " ; ".join([spaced(row) for row in rows]) if rows else "none"


def done_text(news):
    """The answer to a deed, by the rows behind "done"."""
    return rows_text([("done",)] + news)


def answer_tell(shop, event):
    """Tells an event; its names are looked at ahead of all that the shop refuses."""
    return done_text(shop.tell(need_names(shop.stock(), event)))


def answer_take(shop, number):
    """Takes an event out."""
    return done_text(shop.take(number))


def answer_found(shop, time, kind, size, box):
    """Tells that a tool is found, and which one it is or may be."""
    names, news = shop.found(time, kind, size, box)
    if not names:
        return done_text([("none",)])
    # A found one that is told leaves its tool in a box where it was lost: without NEWS nothing is done.
    words = ("is",) if news else ("may", "be")
    return done_text([(*words, *names)] + news)


def answer_undo(shop):
    """Undoes the last deed."""
    return done_text(shop.undo())


def answer_stock(shop):
    """The text of the stock."""
    return stock_text(shop.stock()).replace("\n", " ; ")


def answer_history(shop):
    """The text of the history."""
    return rows_text([(event_text(event),) for event in shop.history()])


def answer_where(shop, tool, time):
    """Where a tool is, and its size."""
    return spaced([*shop.state_of(tool, time), shop.size_of(tool, time)])


def answer_life(shop, tool):
    """The life of a tool."""
    return str(shop.life(tool))


def answer_box(shop, box, time):
    """The tools in a box."""
    return names_text(in_box(shop.stock(), shop.history(), box, time))


def answer_hand(shop, hand, time):
    """The tools with a hand."""
    return names_text(held_by(shop.stock(), shop.history(), hand, time))


def answer_bench(shop, bench, time):
    """The tools at a bench."""
    return names_text(at_bench(shop.stock(), shop.history(), bench, time))


def answer_lost(shop, time):
    """The tools that are lost."""
    return names_text(lost_ones(shop.stock(), shop.history(), time))


def answer_stone(shop, time):
    """The tools at the stone."""
    return names_text(at_stone(shop.stock(), shop.history(), time))


def answer_pick(shop, work, time):
    """The tool to take for a work."""
    return shop.pick(work, time)


def answer_set(shop, name, time):
    """What a set lacks, and what stands in."""
    rows = []
    gauges = [gauge for _, gauge in stand_ins(shop.stock(), shop.history(), name, time)]
    for (piece, state), gauge in zip(shop.lacking(name, time), gauges):
        rows.append((piece, *state, "by", gauge) if gauge else (piece, *state))
    return rows_text(rows)


def answer_can(shop, kind, size, time):
    """The tools that a found one can be."""
    return names_text(can_be(shop.stock(), shop.history(), kind, size, time))


def answer_alike(shop, time):
    """The boxes that are alike one told ahead, in their order, each with the first such one."""
    firsts = {}
    for boxes in alike_boxes(shop.stock(), shop.history(), time):
        for box in boxes[1:]:
            firsts[box] = boxes[0]
    return rows_text([(box, firsts[box]) for box in shop.stock()[BOXES] if box in firsts])


def answer_new(shop, *works):
    """How many new tools works need, and which does each of them."""
    return rows_text([(fewest(shop.stock(), works),), *plan_for(shop.stock(), works)])


ANSWERS = {
    "tell": answer_tell,
    "take": answer_take,
    "found": answer_found,
    "undo": answer_undo,
    "stock": answer_stock,
    "history": answer_history,
    "where": answer_where,
    "life": answer_life,
    "box": answer_box,
    "hand": answer_hand,
    "bench": answer_bench,
    "lost": answer_lost,
    "stone": answer_stone,
    "pick": answer_pick,
    "set": answer_set,
    "can": answer_can,
    "alike": answer_alike,
    "new": answer_new,
}


def unheld_text(place):
    """What is said of a history that is refused, by the place."""
    if place[0] == "holds":
        return f"doesn't hold {place[1]}"
    return "twice" if place[0] == "twice" else "too many"


class Desk:
    """A desk with a shop of its own."""

    def __init__(self, text):
        self._shop = Shop(read_stock(text))

    def say(self, line):
        """The answer to a line."""
        told = read_line(line)
        if told is None:
            return "no line"
        word, *parts = told
        answer = ANSWERS[word]
        try:
            return answer(self._shop, *parts)
        except NoSuch as missing:
            return f"no such {missing.name}"
        except BadHistory as unheld:
            return unheld_text(unheld.place)
        except NoEvent:
            return "no event"
        except BadDeed:
            return "nothing"
        except NoneServes:
            return "none serves"
