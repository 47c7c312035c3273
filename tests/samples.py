"""A stock, a history and things of every kind, for all tests."""

KINDS = (("saw", 3), ("axe", 0), ("lend", 99))
BOXES = ("a", "b", "saw")
TOOLS = (
    ("rip", "saw", 7, "a"),
    ("fine", "saw", 3, "a"),
    ("saw", "axe", 2, "b"),
    ("big", "axe", 99, "saw"),
    ("stone", "lend", 99, "a"),
    ("spare", "saw", 5, "b"),
)
HANDS = (("zoe", "low"), ("ann", "top"), ("saw", "low"), ("a", "mid"))
SETS = (("pair", ("rip", "saw")), ("one", ("big",)))
GAUGES = (("g", "saw", 3, 9), ("saw", "axe", 0, 99))
WORKS = (
    ("cut", "saw", 4, 7),
    ("trim", "saw", 0, 3),
    ("chop", "axe", 1, 99),
    ("split", "axe", 0, 0),
    ("saw", "lend", 99, 99),
)
KEEPS = (("rip", "cut"), ("fine", "cut"), ("saw", "split"))

STOCK = (KINDS, BOXES, TOOLS, HANDS, SETS, GAUGES, WORKS, KEEPS)

STOCK_TEXT = "\n".join([
    "kind saw 3", "kind axe 0", "kind lend 99",
    "box a", "box b", "box saw",
    "tool rip saw 7 a", "tool fine saw 3 a", "tool saw axe 2 b",
    "tool big axe 99 saw", "tool stone lend 99 a", "tool spare saw 5 b",
    "hand zoe low", "hand ann top", "hand saw low", "hand a mid",
    "set pair rip saw", "set one big",
    "gauge g saw 3 9", "gauge saw axe 0 99",
    "work cut saw 4 7", "work trim saw 0 3", "work chop axe 1 99", "work split axe 0 0", "work saw lend 99 99",
    "keep rip cut", "keep fine cut", "keep saw split",
])

# The least stock, and one with as many of each sort as there may be.
LEAST_STOCK = ((("k", 0),), (), (), (), (), (), (), ())


def letters(many, ahead=""):
    """So many names."""
    return tuple(ahead + sign for sign in "abcdefghijklmnopqrstuvwxyz"[:many])


def full_stock(more=None):
    """As many of each sort as there may be, or one more of the sort of that number."""
    many = [6, 5, 12, 5, 4, 3, 8, 6]
    if more is not None:
        many[more] += 1
    tools = letters(max(many[2], 12), "t")
    return (
        tuple((name, 1) for name in letters(many[0], "k")),
        letters(many[1], "b"),
        tuple((name, "ka", 9, "ba") for name in tools[:many[2]]),
        tuple((name, "bench") for name in letters(many[3], "h")),
        tuple((name, (tools[at],)) for at, name in enumerate(letters(many[4], "s"))),
        tuple((name, "ka", 0, 9) for name in letters(many[5], "g")),
        tuple((name, "ka", 0, 9) for name in letters(many[6], "w")),
        tuple((tools[at], "wa") for at in range(many[7])),
    )


WORDS = ("lend", "pass", "back", "sharp", "find", "stone", "lose")

# Each tool is told once late and once in time; rip goes the whole way.
HISTORY = (
    (10, "lend", "rip", "zoe"),
    (40, "sharp", "rip", "b"),
    (20, "pass", "rip", "ann"),
    (30, "stone", "rip", ""),
    (50, "lend", "rip", "zoe"),
    (60, "lose", "rip", ""),
    (70, "find", "rip", "saw"),
    (10, "lend", "big", "saw"),
    (30, "lend", "saw", "a"),
    (10, "stone", "spare", ""),
    (60, "back", "big", "b"),
    (999, "lose", "saw", ""),
    (0, "lend", "fine", "zoe"),
)


def changed(rows, at, row):
    """The tuple with another thing at that place."""
    return rows[:at] + (row,) + rows[at + 1:]


def with_sort(sort, things, stock=STOCK):
    """The stock with other things of one sort."""
    return changed(stock, sort, things)


def some_history(dice):
    """A few events, mostly such as can stand, told in any order."""
    rows = {}
    states = {}
    for time in range(9):
        for tool in dice.sample(("rip", "saw", "big"), dice.randrange(3)):
            state = states.get(tool, "box")
            words = {"box": ("lend", "stone", "lose"), "hand": ("pass", "back", "stone", "lose"),
                     "stone": ("sharp",), "lost": ("find",)}[state]
            word = dice.choice(words) if dice.random() < 0.95 else dice.choice(WORDS)
            where = {"stone": "", "lose": "", "lend": "ann", "pass": dice.choice(("zoe", "ann", "saw"))}.get(word, "b")
            states[tool] = {"lend": "hand", "pass": "hand", "stone": "stone", "lose": "lost"}.get(word, "box")
            rows[time, tool] = (time, word, tool, where)
    told = list(rows.values())
    dice.shuffle(told)
    return tuple(told)


def gone_through(history):
    """All events in one row by TIME, then as told: the number of the first that can't stand, STATEs, SIZEs."""
    states = {name: ("box", box) for name, _, _, box in TOOLS}
    sizes = {name: size for name, _, size, _ in TOOLS}
    leasts = {name: dict(KINDS)[kind] for name, kind, _, _ in TOOLS}
    for number in sorted(range(len(history)), key=lambda n: (history[n][0], n)):
        _, word, tool, where = history[number]
        was = states[tool][0]
        fits = {"lend": was == "box", "pass": was == "hand" and states[tool][1] != where, "back": was == "hand",
                "sharp": was == "stone", "find": was == "lost", "lose": was in ("box", "hand"),
                "stone": was in ("box", "hand") and sizes[tool] > leasts[tool]}
        if not fits[word]:
            return number, states, sizes
        states[tool] = {"lend": ("hand", where), "pass": ("hand", where), "stone": ("stone",),
                        "lose": ("lost",)}.get(word, ("box", where))
        sizes[tool] -= word == "sharp"
    return None, states, sizes


def deep(many=5000):
    """Tuples in tuples."""
    thing = ()
    for _ in range(many):
        thing = (thing,)
    return thing


class Equal:
    """Equal to anything, and no key of a dict."""

    __hash__ = None

    def __eq__(self, other):
        return True


def odd_things():
    """What is no name, no TIME, no STOCK, no HISTORY, no EVENT and no text of any."""
    return [
        None, True, False, -1, 1000, 10 ** 5000, -(10 ** 5000),
        "", " ", "rip ", " rip", "Rip", "RIP", "rip1", "1", "r-p", "a b", "a\nb", "nobody",
        "lost", "stones", "tool", "k" * 9, "a" * 5000, "9" * 5000, b"rip", b"",
        [], ["rip"], {}, {"rip": 1}, set(), {"rip"}, (), ("nobody",), (("rip",),), range(3),
        [()] * 8, ("",) * 8, [list(things) for things in STOCK],
        deep(), [deep()], {"a": deep()}, (deep(),) * 4, (deep(),) * 9,
        object(), len, int, Equal(),
    ]
