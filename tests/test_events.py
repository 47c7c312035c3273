"""Events, histories, and where they leave the tools."""

import itertools
import random
import unittest

from edgeshop import events
from edgeshop.errors import BadHistory, BadQuestion, BadStock, NoSuch
from tests.samples import HISTORY, LEAST_STOCK, STOCK, TOOLS, WORDS
from tests.samples import changed, deep, gone_through, odd_things, some_history, with_sort

# Each question, and what is handed in behind the history, ahead of the TIME.
NAMED = {
    events.state_of: ("rip",), events.size_of: ("rip",), events.held_by: ("zoe",), events.at_bench: ("low",),
    events.in_box: ("a",), events.serves: ("rip", "cut"),
}
TIMED = {**NAMED, events.all_states: (), events.at_stone: (), events.lost_ones: ()}
ALL = {**TIMED, events.who_had: ("rip",)}

# Of the right form, but no event can stand: it is in a box.
UNHELD = ((5, "back", "rip", "a"),)


class Refusing(unittest.TestCase):

    def place(self, thing, stock=STOCK):
        with self.assertRaises(BadHistory) as told:
            events.need_history(stock, thing)
        self.assertIs(type(told.exception), BadHistory)
        self.assertIs(events.holds(stock, thing), False)
        return told.exception.place

    def taken(self, thing, stock=STOCK):
        self.assertIs(events.need_history(stock, thing), thing)
        self.assertIs(events.holds(stock, thing), True)


class Form(Refusing):

    def test_a_history_is_told_itself(self):
        self.taken(HISTORY)
        self.taken(())
        self.taken((), LEAST_STOCK)

    def test_anything_else_is_refused(self):
        for at, thing in enumerate(odd_things()):
            if thing != () or type(thing) is not tuple:
                with self.subTest(at=at):
                    form = ("form", 0) if type(thing) is tuple else ("form", -1)
                    self.assertEqual(self.place(thing), form)
        self.assertEqual(self.place(list(HISTORY)), ("form", -1))
        self.assertEqual(self.place([]), ("form", -1))

    def test_none_to_60_events(self):
        rows = tuple((time, ("lend", "back")[time % 2], "rip", ("ann", "a")[time % 2]) for time in range(61))
        self.taken(rows[:60])
        self.assertEqual(self.place(rows), ("form", -1))
        self.assertEqual(self.place((None,) * 60), ("form", 0))
        self.assertEqual(self.place((None,) * 61), ("form", -1))

    def test_anything_as_an_event_is_refused_by_its_number(self):
        for at, thing in enumerate(odd_things()):
            with self.subTest(at=at):
                self.assertEqual(self.place(changed(HISTORY, 4, thing)), ("form", 4))

    def test_an_event_is_a_tuple_of_four(self):
        for event in HISTORY[:3]:
            self.assertEqual(self.place((event[:3],)), ("form", 0))
            self.assertEqual(self.place((event + ("",),)), ("form", 0))
            self.assertEqual(self.place((list(event),)), ("form", 0))

    def test_anything_within_an_event_is_refused(self):
        for number in (0, 3):
            event = HISTORY[number]
            for part in range(4):
                for at, thing in enumerate(odd_things()):
                    if part == 3 and number == 3 and type(thing) is str and thing == "":
                        continue
                    with self.subTest(number=number, part=part, at=at):
                        history = changed(HISTORY, number, changed(event, part, thing))
                        self.assertEqual(self.place(history), ("form", number))

    def test_a_time_is_from_0_to_999(self):
        for time in (0, 1, 998, 999):
            self.taken(((time, "lend", "rip", "ann"),))
        for time in (-1, 1000, True, False, "5", None):
            self.assertEqual(self.place(((time, "lend", "rip", "ann"),)), ("form", 0))

    def test_names_are_those_of_the_stock(self):
        for tool in ("axe", "cut", "ann", "nobody", "zoe"):
            self.assertEqual(self.place(((1, "lend", tool, "ann"),)), ("form", 0))
        self.assertEqual(self.place(((1, "lend", "rip", "ann"),), LEAST_STOCK), ("form", 0))

    def test_where_is_as_its_word_wants_it(self):
        # "saw" is a hand and a box, "a" too; "zoe" is a hand only, "b" a box only.
        fits = {"zoe": ("lend", "pass"), "b": ("back", "sharp", "find"), "": ("stone", "lose"),
                "low": (), "rip": (), "axe": (), "lend": (), "box": (),
                "saw": ("lend", "pass", "back", "sharp", "find"), "a": ("lend", "pass", "back", "sharp", "find")}
        for word in WORDS:
            for where, words in fits.items():
                with self.subTest(word=word, where=where):
                    formed = events.is_event(STOCK, (5, word, "rip", where))
                    self.assertIs(formed, word in words)
                    if word not in words:
                        self.assertEqual(self.place(((5, word, "rip", where),)), ("form", 0))

    def test_no_other_words(self):
        for word in ("Lend", "lends", "len", "lost", "hand", "box", "kind", "", "lend "):
            for where in ("saw", ""):
                self.assertEqual(self.place(((5, word, "rip", where),)), ("form", 0))

    def test_two_of_one_tool_and_time(self):
        self.assertEqual(self.place(HISTORY + ((40, "lose", "rip", ""),)), ("twice", 13))
        self.assertEqual(self.place(HISTORY + ((10, "lend", "rip", "zoe"),)), ("twice", 13))
        rows = ((7, "lend", "rip", "ann"), (7, "lend", "big", "ann"), (8, "back", "big", "a"),
                (7, "back", "big", "a"), (7, "back", "rip", "a"))
        self.assertEqual(self.place(rows), ("twice", 3))
        self.taken(rows[:3])

    def test_twice_is_told_by_the_later_one(self):
        rows = ((0, "lend", "rip", "ann"), (5, "back", "rip", "a"), (0, "lend", "rip", "ann"), (5, "back", "rip", "a"))
        self.assertEqual(self.place(rows), ("twice", 2))

    def test_the_form_is_refused_ahead_of_twice_and_that_ahead_of_holds(self):
        rows = ((5, "back", "rip", "a"), (5, "back", "rip", "a"), (6, "back", "rip", "axe"), (7, "none", "rip", "a"))
        self.assertEqual(self.place(rows), ("form", 2))
        self.assertEqual(self.place(rows[:2]), ("twice", 1))
        self.assertEqual(self.place(rows[:1]), ("holds", 0))


class Holding(Refusing):

    # What leads to each state, and the words that can stand then.
    LEADS = (
        ((), ("lend", "stone", "lose")),
        (((1, "lend", "rip", "zoe"),), ("pass", "back", "stone", "lose")),
        (((1, "stone", "rip", ""),), ("sharp",)),
        (((1, "lose", "rip", ""),), ("find",)),
        (((1, "stone", "rip", ""), (2, "sharp", "rip", "b")), ("lend", "stone", "lose")),
        (((1, "lose", "rip", ""), (2, "find", "rip", "b")), ("lend", "stone", "lose")),
        (((1, "lend", "rip", "ann"), (2, "pass", "rip", "zoe")), ("pass", "back", "stone", "lose")),
        (((1, "lend", "rip", "ann"), (2, "back", "rip", "b")), ("lend", "stone", "lose")),
        (((1, "lend", "rip", "ann"), (2, "stone", "rip", "")), ("sharp",)),
        (((1, "lend", "rip", "ann"), (2, "lose", "rip", "")), ("find",)),
    )

    def test_each_event_finds_its_tool_as_its_word_wants(self):
        for ahead, words in self.LEADS:
            for word in WORDS:
                where = {"stone": "", "lose": ""}.get(word, "saw")
                history = ahead + ((9, word, "rip", where),)
                with self.subTest(history=history):
                    if word in words:
                        self.taken(history)
                    else:
                        self.assertEqual(self.place(history), ("holds", len(ahead)))

    def test_a_pass_goes_to_another_hand(self):
        lent = ((5, "lend", "rip", "a"),)
        self.assertEqual(self.place(lent + ((6, "pass", "rip", "a"),)), ("holds", 1))
        self.taken(lent + ((6, "pass", "rip", "ann"),))
        self.taken(lent + ((6, "pass", "rip", "ann"), (7, "pass", "rip", "a")))
        self.assertEqual(self.place(lent + ((6, "pass", "rip", "ann"), (7, "pass", "rip", "ann"))), ("holds", 2))
        # Another hand of the same bench is another one.
        self.taken(((5, "lend", "rip", "zoe"), (6, "pass", "rip", "saw")))

    def test_a_tool_may_come_back_into_the_box_that_it_was_in(self):
        self.taken(((5, "lend", "rip", "ann"), (6, "back", "rip", "a")))
        self.taken(((5, "stone", "rip", ""), (6, "sharp", "rip", "a")))

    def test_what_is_worn_out_does_not_go_to_the_stone(self):
        self.assertEqual(self.place(((5, "stone", "fine", ""),)), ("holds", 0))
        self.assertEqual(self.place(((4, "lend", "fine", "ann"), (5, "stone", "fine", ""))), ("holds", 1))
        self.assertEqual(self.place(((5, "stone", "stone", ""),)), ("holds", 0))
        self.taken(((5, "lend", "fine", "ann"), (6, "lose", "fine", ""), (7, "find", "fine", "b")))

    def test_a_tool_is_sharpened_down_to_its_kinds_least(self):
        rows = []
        for time in range(0, 8, 2):
            rows += [(time, "stone", "rip", ""), (time + 1, "sharp", "rip", "b")]
        history = tuple(rows)
        self.taken(history)
        self.assertEqual(events.size_of(STOCK, history, "rip"), 3)
        self.assertEqual(self.place(history + ((8, "stone", "rip", ""),)), ("holds", 8))
        self.taken(history + ((8, "lend", "rip", "ann"),))
        history = ((0, "stone", "saw", ""), (1, "sharp", "saw", "a"), (2, "stone", "saw", ""), (3, "sharp", "saw", "a"))
        self.taken(history)
        self.assertEqual(events.size_of(STOCK, history, "saw"), 0)
        self.assertEqual(self.place(history + ((8, "stone", "saw", ""),)), ("holds", 4))

    def test_it_is_worn_out_by_what_is_told_late(self):
        late = ((8, "stone", "saw", ""), (9, "sharp", "saw", "a"), (5, "stone", "saw", ""), (6, "sharp", "saw", "a"))
        self.taken(late)
        self.assertEqual(self.place(late + ((1, "stone", "saw", ""), (2, "sharp", "saw", "a"))), ("holds", 0))

    def test_it_is_told_by_the_least_time_and_then_by_the_first_told(self):
        wrong = ((9, "back", "rip", "a"), (7, "back", "big", "a"), (7, "back", "spare", "a"), (8, "back", "saw", "a"))
        self.assertEqual(self.place(wrong), ("holds", 1))
        self.assertEqual(self.place(wrong[::-1]), ("holds", 1))
        self.assertEqual(self.place(((7, "back", "spare", "a"), (7, "back", "rip", "a"))), ("holds", 0))
        self.assertEqual(self.place(((7, "back", "rip", "a"), (7, "back", "spare", "a"))), ("holds", 0))
        self.assertEqual(self.place(((7, "back", "rip", "a"), (6, "lend", "rip", "ann"), (8, "find", "rip", "a"))),
                         ("holds", 2))

    def test_only_the_first_of_each_tool_counts(self):
        rows = ((3, "lend", "rip", "ann"), (2, "find", "rip", "a"), (1, "sharp", "rip", "a"), (2, "lend", "big", "ann"))
        self.assertEqual(self.place(rows), ("holds", 2))

    def test_as_gone_through_event_by_event(self):
        dice = random.Random(7)
        broken = 0
        for _ in range(400):
            history = some_history(dice)
            number, states, sizes = gone_through(history)
            if number is not None:
                broken += 1
                self.assertEqual(self.place(history), ("holds", number))
            else:
                self.taken(history)
                time = dice.randrange(12)
                _, states, sizes = gone_through(tuple(event for event in history if event[0] <= time))
                self.assertEqual(events.all_states(STOCK, history, time), states)
                self.assertEqual({tool[0]: events.size_of(STOCK, history, tool[0], time) for tool in TOOLS}, sizes)
        self.assertTrue(100 < broken < 300, broken)


class Asking(unittest.TestCase):

    def test_states_of_one_that_goes_the_whole_way(self):
        for time, state, size in ((0, ("box", "a"), 7), (9, ("box", "a"), 7), (10, ("hand", "zoe"), 7),
                                  (19, ("hand", "zoe"), 7), (20, ("hand", "ann"), 7), (29, ("hand", "ann"), 7),
                                  (30, ("stone",), 7), (39, ("stone",), 7), (40, ("box", "b"), 6),
                                  (49, ("box", "b"), 6), (50, ("hand", "zoe"), 6), (60, ("lost",), 6),
                                  (69, ("lost",), 6), (70, ("box", "saw"), 6), (999, ("box", "saw"), 6)):
            with self.subTest(time=time):
                self.assertEqual(events.state_of(STOCK, HISTORY, "rip", time), state)
                self.assertEqual(events.size_of(STOCK, HISTORY, "rip", time), size)

    def test_ahead_of_all_a_tool_is_in_its_box_of_the_stock(self):
        for name, _, size, box in TOOLS:
            for time in (0, 999):
                self.assertEqual(events.state_of(STOCK, (), name, time), ("box", box))
                self.assertEqual(events.size_of(STOCK, (), name, time), size)

    def test_events_of_time_0_and_999(self):
        self.assertEqual(events.state_of(STOCK, HISTORY, "fine", 0), ("hand", "zoe"))
        self.assertEqual(events.state_of(STOCK, HISTORY, "saw", 998), ("hand", "a"))
        self.assertEqual(events.state_of(STOCK, HISTORY, "saw", 999), ("lost",))

    def test_the_time_left_out_is_999(self):
        for ask, names in TIMED.items():
            with self.subTest(ask=ask):
                told = ask(STOCK, HISTORY, *names)
                self.assertEqual(told, ask(STOCK, HISTORY, *names, 999))
                self.assertEqual(told, ask(STOCK, HISTORY, *names, time=999))
                self.assertEqual(ask(STOCK, HISTORY, *names, time=12), ask(STOCK, HISTORY, *names, 12))
        self.assertEqual(events.state_of(STOCK, HISTORY, "saw"), ("lost",))
        self.assertEqual(events.state_of(STOCK, HISTORY, "saw", time=30), ("hand", "a"))
        self.assertEqual(events.size_of(STOCK, HISTORY, "rip"), 6)
        self.assertEqual(events.size_of(STOCK, HISTORY, "rip", time=39), 7)
        self.assertEqual(events.lost_ones(STOCK, HISTORY), ["saw"])

    def test_all_states_in_the_order_of_the_tools(self):
        self.assertEqual(list(events.all_states(STOCK, HISTORY, 60).items()), [
            ("rip", ("lost",)), ("fine", ("hand", "zoe")), ("saw", ("hand", "a")),
            ("big", ("box", "b")), ("stone", ("box", "a")), ("spare", ("stone",))])
        self.assertEqual(events.all_states(LEAST_STOCK, ()), {})

    def test_who_holds_what(self):
        self.assertEqual(events.held_by(STOCK, HISTORY, "zoe", 10), ["rip", "fine"])
        self.assertEqual(events.held_by(STOCK, HISTORY, "zoe", 9), ["fine"])
        self.assertEqual(events.held_by(STOCK, HISTORY, "zoe", 20), ["fine"])
        self.assertEqual(events.held_by(STOCK, HISTORY, "ann", 20), ["rip"])
        self.assertEqual(events.held_by(STOCK, HISTORY, "ann"), [])
        self.assertEqual(events.held_by(STOCK, HISTORY, "saw", 10), ["big"])
        # "a" is a box as well: what is in it is not with the hand.
        self.assertEqual(events.held_by(STOCK, HISTORY, "a", 0), [])

    def test_benches(self):
        self.assertEqual(events.at_bench(STOCK, HISTORY, "low", 10), ["rip", "fine", "big"])
        self.assertEqual(events.at_bench(STOCK, HISTORY, "low", 60), ["fine"])
        self.assertEqual(events.at_bench(STOCK, HISTORY, "top", 20), ["rip"])
        self.assertEqual(events.at_bench(STOCK, HISTORY, "mid", 30), ["saw"])
        self.assertEqual(events.at_bench(STOCK, HISTORY, "mid", 29), [])
        for bench in ("zoe", "ann", "a"):
            with self.assertRaises(NoSuch):
                events.at_bench(STOCK, HISTORY, bench)

    def test_boxes(self):
        self.assertEqual(events.in_box(STOCK, HISTORY, "a", 0), ["rip", "stone"])
        self.assertEqual(events.in_box(STOCK, (), "a", 0), ["rip", "fine", "stone"])
        self.assertEqual(events.in_box(STOCK, HISTORY, "b", 0), ["saw", "spare"])
        self.assertEqual(events.in_box(STOCK, HISTORY, "b", 40), ["rip"])
        self.assertEqual(events.in_box(STOCK, HISTORY, "saw", 10), [])
        self.assertEqual(events.in_box(STOCK, HISTORY, "saw"), ["rip"])
        self.assertEqual(events.in_box(STOCK, HISTORY, "b"), ["big"])

    def test_the_stone_and_the_lost_ones(self):
        self.assertEqual(events.at_stone(STOCK, HISTORY, 9), [])
        self.assertEqual(events.at_stone(STOCK, HISTORY, 10), ["spare"])
        self.assertEqual(events.at_stone(STOCK, HISTORY, 30), ["rip", "spare"])
        self.assertEqual(events.at_stone(STOCK, HISTORY), ["spare"])
        self.assertEqual(events.lost_ones(STOCK, HISTORY, 59), [])
        self.assertEqual(events.lost_ones(STOCK, HISTORY, 60), ["rip"])
        self.assertEqual(events.lost_ones(STOCK, HISTORY + ((65, "lose", "big", ""),), 69), ["rip", "big"])

    def test_who_had_it(self):
        self.assertEqual(events.who_had(STOCK, HISTORY, "rip"), ["zoe", "ann", "zoe"])
        self.assertEqual(events.who_had(STOCK, HISTORY, "saw"), ["a"])
        self.assertEqual(events.who_had(STOCK, HISTORY, "stone"), [])
        self.assertEqual(events.who_had(STOCK, HISTORY, "spare"), [])
        again = ((9, "lend", "rip", "ann"), (5, "lend", "rip", "ann"), (7, "back", "rip", "b"), (11, "pass", "rip", "a"))
        self.assertEqual(events.who_had(STOCK, again, "rip"), ["ann", "ann", "a"])

    def test_told_late_is_as_told_in_time(self):
        rows = HISTORY[:5]
        for history in itertools.permutations(rows):
            self.assertTrue(events.holds(STOCK, history))
            for time in (0, 10, 25, 30, 40, 50):
                self.assertEqual(events.state_of(STOCK, history, "rip", time),
                                 events.state_of(STOCK, rows, "rip", time))
            self.assertEqual(events.who_had(STOCK, history, "rip"), ["zoe", "ann", "zoe"])
            self.assertEqual(events.size_of(STOCK, history, "rip", 39), 7)
            self.assertEqual(events.size_of(STOCK, history, "rip", 40), 6)


class Serving(unittest.TestCase):

    def serving(self, history, tool, time=999, stock=STOCK):
        return [work[0] for work in stock[6] if events.serves(stock, history, tool, work[0], time)]

    def test_truths_are_told(self):
        self.assertIs(events.serves(STOCK, (), "rip", "cut"), True)
        self.assertIs(events.serves(STOCK, (), "rip", "chop"), False)

    def test_by_kind_size_and_what_it_is_kept_for(self):
        # fine is kept for a work that is above its size, saw for one that is below.
        self.assertEqual([self.serving((), tool[0]) for tool in TOOLS],
                         [["cut"], [], [], ["chop"], ["saw"], ["cut"]])
        free = with_sort(7, ())
        self.assertEqual([self.serving((), tool[0], stock=free) for tool in TOOLS],
                         [["cut"], ["trim"], ["chop"], ["chop"], ["saw"], ["cut"]])

    def test_its_size_is_from_low_to_high(self):
        for low, high, told in ((7, 7, True), (0, 6, False), (8, 99, False), (0, 7, True), (7, 99, True)):
            stock = with_sort(7, (), with_sort(6, (("cut", "saw", low, high),)))
            self.assertIs(events.serves(stock, (), "rip", "cut"), told)

    def test_its_size_then_counts(self):
        free = with_sort(7, ())
        history = ((10, "stone", "saw", ""), (11, "sharp", "saw", "a"), (12, "stone", "saw", ""), (13, "sharp", "saw", "b"))
        self.assertEqual([self.serving(history, "saw", time, free) for time in (9, 10, 11, 12, 13, 999)],
                         [["chop"], ["chop"], ["chop"], ["chop"], ["split"], ["split"]])
        self.assertEqual([self.serving(history, "saw", time) for time in (0, 12, 13)], [[], [], ["split"]])

    def test_a_lost_one_serves_none_then(self):
        history = ((10, "lend", "rip", "ann"), (20, "lose", "rip", ""), (30, "find", "rip", "a"), (40, "stone", "rip", ""))
        told = [events.serves(STOCK, history, "rip", "cut", time) for time in (9, 10, 19, 20, 29, 30, 40)]
        self.assertEqual(told, [True, True, True, False, False, True, True])

    def test_kept_for_a_work_it_serves_no_other_one(self):
        works = (("cut", "saw", 0, 99), ("trim", "saw", 0, 99))
        stock = with_sort(7, (("rip", "trim"),), with_sort(6, works))
        self.assertEqual(self.serving((), "rip", stock=stock), ["trim"])
        self.assertEqual(self.serving((), "spare", stock=stock), ["cut", "trim"])


class Refusals(unittest.TestCase):

    def refused(self, error, field, thing, ask, *handed):
        with self.assertRaises(error) as told:
            ask(*handed)
        self.assertIs(type(told.exception), error)
        if field is not None:
            self.assertEqual(getattr(told.exception, field), thing)

    def test_a_stock_first(self):
        for ask, names in ALL.items():
            wrong = [None] * len(names)
            for at, thing in enumerate(odd_things()):
                with self.subTest(ask=ask, at=at):
                    self.refused(BadStock, "place", ("form",), ask, thing, None, *wrong)
            self.refused(BadStock, "place", ("keep", 0), ask, with_sort(7, (deep(),)), HISTORY, *names)
        for ask in (events.need_history, events.holds):
            for thing in odd_things():
                self.refused(BadStock, "place", ("form",), ask, thing, None)
            self.refused(BadStock, "place", ("keep", 0), ask, with_sort(7, (deep(),)), HISTORY)

    def test_a_history_second(self):
        for ask, names in ALL.items():
            wrong = [None] * len(names)
            for at, thing in enumerate(odd_things()):
                if type(thing) is not tuple:
                    with self.subTest(ask=ask, at=at):
                        self.refused(BadHistory, "place", ("form", -1), ask, STOCK, thing, *wrong)
            self.refused(BadHistory, "place", ("form", 0), ask, STOCK, (deep(),), *wrong)
            self.refused(BadHistory, "place", ("twice", 1), ask, STOCK, UNHELD + UNHELD, *wrong)
            self.refused(BadHistory, "place", ("holds", 0), ask, STOCK, UNHELD, *wrong)
            self.refused(BadHistory, "place", ("holds", 0), ask, STOCK, UNHELD, *names)

    def test_then_names_in_the_order_in_which_they_are_handed_in(self):
        others = {events.held_by: "low", events.at_bench: "ann", events.in_box: "rip"}
        for ask, names in [*NAMED.items(), (events.who_had, ("rip",))]:
            for place in range(len(names)):
                for at, thing in enumerate([others.get(ask, "axe")] + odd_things()):
                    handed = names[:place] + (thing,) + names[place + 1:]
                    late = () if ask is events.who_had else (None,)
                    with self.subTest(ask=ask, place=place, at=at), self.assertRaises(NoSuch) as told:
                        ask(STOCK, HISTORY, *handed, *late)
                    self.assertIs(told.exception.name, thing)
        self.refused(NoSuch, "name", "first", events.serves, STOCK, HISTORY, "first", "second")
        self.refused(NoSuch, "name", "second", events.serves, STOCK, HISTORY, "rip", "second", None)

    def test_then_times(self):
        for ask, names in TIMED.items():
            for at, thing in enumerate(odd_things()):
                with self.subTest(ask=ask, at=at):
                    self.refused(BadQuestion, None, None, ask, STOCK, HISTORY, *names, thing)
                    with self.assertRaises(BadQuestion):
                        ask(STOCK, HISTORY, *names, time=thing)

    def test_times_are_refused_where_no_tool_is(self):
        for ask in (events.all_states, events.at_stone, events.lost_ones):
            self.refused(BadQuestion, None, None, ask, LEAST_STOCK, (), 1000)

    def test_sorts_of_names_are_not_mixed_up(self):
        self.refused(NoSuch, "name", "zoe", events.in_box, STOCK, (), "zoe")
        self.refused(NoSuch, "name", "b", events.held_by, STOCK, (), "b")
        self.refused(NoSuch, "name", "cut", events.serves, STOCK, (), "cut", "rip")
        self.refused(NoSuch, "name", "rip", events.serves, STOCK, (), "rip", "rip")
        self.refused(NoSuch, "name", "split", events.who_had, STOCK, (), "split")


class Own(unittest.TestCase):

    def test_a_told_list_or_dict_is_the_askers_own(self):
        for ask, names in ALL.items():
            for time in (0, 10, 30, 60, 999):
                handed = (STOCK, HISTORY, *names) + (() if ask is events.who_had else (time,))
                told = ask(*handed)
                if type(told) is list:
                    kept = list(told)
                    told.append("new")
                    self.assertEqual(ask(*handed), kept)
                if type(told) is dict:
                    kept = dict(told)
                    told["rip"] = None
                    del told["saw"]
                    self.assertEqual(ask(*handed), kept)

    def test_states_are_tuples_that_can_be_keys(self):
        for state in events.all_states(STOCK, HISTORY, 30).values():
            self.assertIs(type(state), tuple)
            self.assertIn(len(state), (1, 2))

    def test_what_is_refused_is_not_changed(self):
        history = [list(event) for event in HISTORY]
        self.assertIs(events.holds(STOCK, history), False)
        self.assertEqual(history, [list(event) for event in HISTORY])
        inner = [5, "lend", "rip", "ann"]
        self.assertIs(events.holds(STOCK, (inner,)), False)
        self.assertEqual(inner, [5, "lend", "rip", "ann"])
        name = {"rip": [1]}
        with self.assertRaises(NoSuch):
            events.state_of(STOCK, HISTORY, name)
        self.assertEqual(name, {"rip": [1]})

    def test_names_may_be_words_and_stand_in_several_sorts(self):
        stock = ((("lost", 1),), ("hand", "lost"), (("box", "lost", 2, "hand"), ("lost", "lost", 2, "lost")),
                 (("box", "stone"), ("lost", "lost")), (), (), (("lend", "lost", 1, 2),), (("box", "lend"),))
        history = ((1, "lend", "box", "box"), (1, "lend", "lost", "lost"), (2, "lose", "lost", ""),
                   (2, "back", "box", "lost"))
        self.assertEqual(events.held_by(stock, history, "box", 1), ["box"])
        self.assertEqual(events.at_bench(stock, history, "stone", 1), ["box"])
        self.assertEqual(events.at_stone(stock, history), [])
        self.assertEqual(events.lost_ones(stock, history, 1), [])
        self.assertEqual(events.lost_ones(stock, history), ["lost"])
        self.assertEqual(events.in_box(stock, history, "lost"), ["box"])
        self.assertEqual(events.in_box(stock, history, "lost", 0), ["lost"])
        self.assertIs(events.serves(stock, history, "box", "lend"), True)
        self.assertIs(events.serves(stock, history, "lost", "lend"), False)
        self.assertIs(events.serves(stock, history, "lost", "lend", 1), True)


if __name__ == "__main__":
    unittest.main()
