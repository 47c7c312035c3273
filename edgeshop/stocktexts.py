"""The text of a stock: a row for each thing, in the order of the sorts."""

from edgeshop.errors import BadText
from edgeshop.stocks import BOXES, KINDS, MOST, SETS, SORTS, fits, need_stock


def words_of(sort, thing):
    """The words of a thing's row, behind that of its sort."""
    if sort == BOXES:
        return [thing]
    if sort == SETS:
        return [thing[0], *thing[1]]
    return [str(part) for part in thing]


def stock_text(stock):
    """The stock as a text."""
    need_stock(stock)
    rows = []
    for sort, things in enumerate(stock):
        for thing in things:
            rows.append(" ".join([SORTS[sort], *words_of(sort, thing)]))
    return "\n".join(rows)


def is_figures(word):
    """Whether it is a number as a text has it: no 0 ahead of other figures."""
    if word == "" or (word[0] == "0" and word != "0"):
        return False
    return all(["0" <= sign <= "9" for sign in word])


def read_word(word):
    """A word's number, if it may be a TIME or a SIZE; else the word itself."""
    # No number told in texts has more figures, and Python refuses to turn thousands of them into one.
    if len(word) > 3 or not is_figures(word):
        return word
    return int(word)


def read_thing(sort, words):
    """The thing that the words behind a sort's tell; what is none needn't fit."""
    if sort == BOXES:
        return words[0] if len(words) == 1 else None
    if sort == SETS:
        return (words[0], tuple(words[1:])) if words else None
    return tuple([read_word(word) for word in words])


def has_room(stock, sort):
    """Whether a row of that sort may stand behind what is read."""
    if sort != KINDS and not stock[KINDS]:
        return False
    if any([stock[later] for later in range(sort + 1, len(SORTS))]):
        return False
    return len(stock[sort]) < MOST[sort]


def read_row(stock, row):
    """The sort and the thing that a row adds to what is read, or None where it can't stand there."""
    words = row.split(" ")
    if words[0] not in SORTS:
        return None
    sort = SORTS.index(words[0])
    thing = read_thing(sort, words[1:])
    if not has_room(stock, sort) or not fits(stock, sort, thing):
        return None
    return sort, thing


def read_stock(text):
    """The stock that a text tells."""
    if type(text) is not str:
        raise BadText(-1)
    stock = [[] for _ in SORTS]
    # Rows lack only in the empty text: it counts none, and as one empty row it is refused by 0, too.
    for number, row in enumerate(text.split("\n")):
        found = read_row(stock, row)
        if found is None:
            raise BadText(number)
        sort, thing = found
        stock[sort].append(thing)
    return tuple([tuple(things) for things in stock])
