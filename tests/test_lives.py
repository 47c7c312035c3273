"""The life of a tool."""

import itertools
import random

from edgeshop.errors import BadQuestion
from edgeshop.events import holds, size_of, state_of
from edgeshop.lives import Life
from tests.refusals import Refusing
from tests.samples import HISTORY, STOCK, TOOLS, WORDS
from tests.samples import Equal, changed, gone_through, odd_things, some_history, with_sort

RIP = [
    (0, 9, ("box", "a"), 7), (10, 19, ("hand", "zoe"), 7), (20, 29, ("hand", "ann"), 7), (30, 39, ("stone",), 7),
    (40, 49, ("box", "b"), 6), (50, 59, ("hand", "zoe"), 6), (60, 69, ("lost",), 6), (70, 999, ("box", "saw"), 6),
]


def lent_and_back(many, first=0, tool="rip"):
    """So many events of one tool, TIME by TIME."""
    return tuple((first + number, ("lend", "back")[number % 2], tool, ("ann", "b")[number % 2])
                 for number in range(many))


def time_by_time(history, name):
    """The SPANS as each TIME for itself tells them."""
    spans = []
    for time in range(1000):
        # Between 10 and 998 nothing happens in these histories.
        if not 10 < time < 999:
            _, states, sizes = gone_through(tuple(event for event in history if event[0] <= time))
        if spans and spans[-1][2:] == (states[name], sizes[name]):
            spans[-1] = (spans[-1][0], time) + spans[-1][2:]
        else:
            spans.append((time, time, states[name], sizes[name]))
    return spans


class Spans(Refusing):

    def spans(self, history, tool="rip", stock=STOCK):
        life = Life(stock, history, tool)
        self.assertEqual(len(life), len(life.spans()))
        return life.spans()

    def test_one_that_goes_the_whole_way(self):
        self.assertEqual(self.spans(HISTORY), RIP)

    def test_a_tool_without_events(self):
        for name, _, size, box in TOOLS:
            self.assertEqual(self.spans((), name), [(0, 999, ("box", box), size)])
        self.assertEqual(self.spans(HISTORY, "stone"), [(0, 999, ("box", "a"), 99)])

    def test_an_event_of_time_0_leaves_no_span_of_what_was_ahead_of_it(self):
        self.assertEqual(self.spans(HISTORY, "fine"), [(0, 999, ("hand", "zoe"), 3)])
        self.assertEqual(self.spans(((0, "lend", "rip", "ann"), (1, "back", "rip", "a"))),
                         [(0, 0, ("hand", "ann"), 7), (1, 999, ("box", "a"), 7)])

    def test_an_event_of_time_1_leaves_one(self):
        self.assertEqual(self.spans(((1, "lend", "rip", "ann"),)),
                         [(0, 0, ("box", "a"), 7), (1, 999, ("hand", "ann"), 7)])

    def test_an_event_of_time_999_has_a_span_of_its_own(self):
        self.assertEqual(self.spans(HISTORY, "saw"),
                         [(0, 29, ("box", "b"), 2), (30, 998, ("hand", "a"), 2), (999, 999, ("lost",), 2)])
        self.assertEqual(self.spans(((999, "lend", "rip", "ann"), (0, "lose", "rip", ""), (998, "find", "rip", "b"))),
                         [(0, 997, ("lost",), 7), (998, 998, ("box", "b"), 7), (999, 999, ("hand", "ann"), 7)])

    def test_back_in_the_box_it_was_in_is_a_span_of_its_own(self):
        history = ((5, "stone", "rip", ""), (6, "sharp", "rip", "a"), (7, "lend", "rip", "zoe"), (8, "back", "rip", "a"))
        self.assertEqual(self.spans(history), [
            (0, 4, ("box", "a"), 7), (5, 5, ("stone",), 7), (6, 6, ("box", "a"), 6), (7, 7, ("hand", "zoe"), 6),
            (8, 999, ("box", "a"), 6)])

    def test_events_of_other_tools_of_the_same_time_are_no_matter(self):
        history = ((5, "lend", "rip", "ann"), (5, "lend", "big", "zoe"), (5, "stone", "saw", ""), (6, "back", "big", "a"))
        self.assertEqual(self.spans(history), [(0, 4, ("box", "a"), 7), (5, 999, ("hand", "ann"), 7)])
        self.assertEqual(self.spans(history, "saw"), [(0, 4, ("box", "b"), 2), (5, 999, ("stone",), 2)])

    def test_sixty_events_of_one_tool(self):
        self.assertEqual(len(Life(STOCK, lent_and_back(60), "rip")), 60)
        self.assertEqual(len(Life(STOCK, lent_and_back(60, 1), "rip")), 61)
        spans = self.spans(lent_and_back(60, 940))
        self.assertEqual(len(spans), 61)
        self.assertEqual(spans[0], (0, 939, ("box", "a"), 7))
        self.assertEqual(spans[-1], (999, 999, ("box", "b"), 7))
        self.assertEqual(self.spans(lent_and_back(60), "big"), [(0, 999, ("box", "saw"), 99)])

    def test_told_late_is_as_told_in_time(self):
        rows = HISTORY[:5]
        told = Life(STOCK, rows, "rip")
        for history in itertools.permutations(rows):
            life = Life(STOCK, history, "rip")
            self.assertEqual(life.spans(), told.spans())
            self.assertEqual([life.many(word) for word in WORDS], [told.many(word) for word in WORDS])
            self.assertEqual(life.at(35), (("stone",), 7))
        self.assertEqual(self.spans(HISTORY[::-1]), RIP)
        self.assertEqual(self.spans(tuple(sorted(HISTORY))), RIP)
        self.assertEqual(self.spans(lent_and_back(60, 1)[::-1]), self.spans(lent_and_back(60, 1)))

    def test_as_each_time_for_itself_tells(self):
        dice = random.Random(11)
        asked = 0
        while asked < 60:
            history = some_history(dice)
            if not holds(STOCK, history):
                continue
            for name in ("rip", "saw", "big"):
                asked += 1
                life = Life(STOCK, history, name)
                self.assertEqual(life.spans(), time_by_time(history, name))
                for time in (0, 3, 8, 9, 999):
                    self.assertEqual(life.at(time), (state_of(STOCK, history, name, time),
                                                     size_of(STOCK, history, name, time)))

    def test_spans_are_tuples_of_numbers_and_a_state(self):
        for span in self.spans(HISTORY):
            self.assertIs(type(span), tuple)
            self.assertEqual([type(part) for part in span], [int, int, tuple, int])


class At(Refusing):

    def test_ahead_at_and_behind_an_event(self):
        life = Life(STOCK, HISTORY, "rip")
        for first, last, state, size in RIP:
            for time in {first, last, (first + last) // 2}:
                self.assertEqual(life.at(time), (state, size))
        self.assertIs(type(life.at(5)), tuple)

    def test_the_time_left_out_is_999(self):
        life = Life(STOCK, HISTORY, "saw")
        self.assertEqual(life.at(), (("lost",), 2))
        self.assertEqual(life.at(time=998), (("hand", "a"), 2))
        self.assertEqual(life.at(time=0), (("box", "b"), 2))
        self.assertEqual(Life(STOCK, (), "rip").at(), (("box", "a"), 7))

    def test_an_event_of_time_0(self):
        self.assertEqual(Life(STOCK, HISTORY, "fine").at(0), (("hand", "zoe"), 3))

    def test_what_is_no_time(self):
        life = Life(STOCK, HISTORY, "rip")
        for at, thing in enumerate(odd_things()):
            with self.subTest(at=at):
                self.refused(BadQuestion, life.at, thing)
                self.refused(BadQuestion, life.at, time=thing)


class Many(Refusing):

    def test_of_all_times(self):
        told = {"lend": 2, "pass": 1, "back": 0, "sharp": 1, "find": 1, "stone": 1, "lose": 1}
        life = Life(STOCK, HISTORY, "rip")
        self.assertEqual({word: life.many(word) for word in WORDS}, told)
        life = Life(STOCK, HISTORY, "saw")
        self.assertEqual([life.many(word) for word in WORDS], [1, 0, 0, 0, 0, 0, 1])
        self.assertEqual([Life(STOCK, HISTORY, "fine").many(word) for word in WORDS], [1, 0, 0, 0, 0, 0, 0])

    def test_of_none_and_of_sixty(self):
        self.assertEqual([Life(STOCK, (), "rip").many(word) for word in WORDS], [0] * 7)
        life = Life(STOCK, lent_and_back(60), "rip")
        self.assertEqual([life.many(word) for word in WORDS], [30, 0, 30, 0, 0, 0, 0])

    def test_what_is_no_word(self):
        life = Life(STOCK, HISTORY, "rip")
        for at, thing in enumerate(odd_things() + ["box", "hand", "lost", "Lend", "lends", ("lend",), ["lend"]]):
            with self.subTest(at=at):
                self.refused(BadQuestion, life.many, thing)


class Alike(Refusing):

    def alike(self, one, other, told):
        self.assertIs(one == other, told)
        self.assertIs(other == one, told)
        self.assertIs(one != other, not told)

    def test_the_same_spans(self):
        self.alike(Life(STOCK, HISTORY, "rip"), Life(STOCK, HISTORY, "rip"), True)
        self.alike(Life(STOCK, HISTORY, "rip"), Life(STOCK, HISTORY[::-1], "rip"), True)
        self.alike(Life(STOCK, HISTORY, "rip"), Life(STOCK, HISTORY[:7], "rip"), True)

    def test_of_whatever_tools_of_whatever_stock(self):
        stock = ((("k", 0),), ("a", "o"), (("x", "k", 7, "a"), ("y", "k", 7, "a"), ("z", "k", 7, "o")), (), (), (), (), ())
        self.alike(Life(STOCK, (), "rip"), Life(stock, (), "x"), True)
        self.alike(Life(stock, (), "x"), Life(stock, (), "y"), True)
        self.alike(Life(stock, (), "x"), Life(stock, (), "z"), False)
        stoned = ((5, "stone", "rip", ""), (6, "sharp", "rip", "b"))
        self.alike(Life(STOCK, stoned, "rip"), Life(with_sort(7, ()), stoned, "rip"), True)
        self.alike(Life(stock, ((5, "stone", "x", ""),), "x"), Life(stock, ((5, "stone", "y", ""),), "y"), True)

    def test_each_part_of_a_span_counts(self):
        lent = Life(STOCK, ((5, "lend", "rip", "ann"),), "rip")
        for event in ((6, "lend", "rip", "ann"), (4, "lend", "rip", "ann"), (5, "lend", "rip", "zoe"),
                      (5, "stone", "rip", ""), (5, "lose", "rip", "")):
            self.alike(lent, Life(STOCK, (event,), "rip"), False)
        self.alike(lent, Life(STOCK, ((5, "lend", "rip", "ann"), (9, "lose", "rip", "")), "rip"), False)
        self.alike(lent, Life(STOCK, (), "rip"), False)
        size = with_sort(2, changed(TOOLS, 0, ("rip", "saw", 8, "a")))
        self.alike(Life(STOCK, (), "rip"), Life(size, (), "rip"), False)

    def test_told_by_unlike_events(self):
        # Both ways to the same SPANS: ahead of an event of TIME 0 a tool may have been in any box.
        other = with_sort(2, changed(TOOLS, 0, ("rip", "saw", 7, "b")))
        history = ((0, "lend", "rip", "ann"),)
        self.alike(Life(STOCK, history, "rip"), Life(other, history, "rip"), True)
        lost = Life(STOCK, ((0, "lose", "rip", ""), (4, "find", "rip", "b")), "rip")
        self.alike(lost, Life(STOCK, ((0, "lose", "rip", ""), (4, "find", "rip", "a")), "rip"), False)

    def test_anything_else_is_unlike(self):
        life = Life(STOCK, HISTORY, "rip")
        for at, thing in enumerate(odd_things() + [life.spans(), tuple(life.spans()), str(life), repr(life), Life]):
            with self.subTest(at=at):
                self.assertIs(life == thing, False)
                self.assertIs(life != thing, True)
        self.assertIs(life == Equal(), False)


class AsText(Refusing):

    def test_as_the_interface_shows(self):
        life = Life(STOCK, ((5, "stone", "rip", ""),), "rip")
        self.assertEqual(str(life), "0 to 4 box a 7; 5 to 999 stone 7")
        self.assertEqual(repr(life), "Life(0 to 4 box a 7; 5 to 999 stone 7)")

    def test_all_states(self):
        self.assertEqual(str(Life(STOCK, HISTORY, "rip")),
                         "0 to 9 box a 7; 10 to 19 hand zoe 7; 20 to 29 hand ann 7; 30 to 39 stone 7; "
                         "40 to 49 box b 6; 50 to 59 hand zoe 6; 60 to 69 lost 6; 70 to 999 box saw 6")
        self.assertEqual(repr(Life(STOCK, HISTORY, "saw")),
                         "Life(0 to 29 box b 2; 30 to 998 hand a 2; 999 to 999 lost 2)")

    def test_one_span(self):
        self.assertEqual(str(Life(STOCK, (), "big")), "0 to 999 box saw 99")
        self.assertEqual(repr(Life(STOCK, HISTORY, "fine")), "Life(0 to 999 hand zoe 3)")


class Own(Refusing):

    def test_what_it_tells_stays_as_it_was_told(self):
        life = Life(STOCK, HISTORY, "rip")
        text = str(life)
        self.check_own(life.spans)
        told = life.spans()
        told[0] = None
        del told[3:]
        self.assertEqual(life.spans(), RIP)
        self.assertEqual(len(life), 8)
        self.assertEqual(str(life), text)
        self.assertEqual(life.at(0), (("box", "a"), 7))
        self.assertEqual(life, Life(STOCK, HISTORY, "rip"))

    def test_two_lives_do_not_share_what_they_tell(self):
        one = Life(STOCK, HISTORY, "rip")
        other = Life(STOCK, HISTORY, "rip")
        one.spans().clear()
        self.assertEqual(other.spans(), RIP)
        self.assertIsNot(one.spans(), one.spans())


class Refusals(Refusing):

    def test_a_stock_then_a_history_then_the_tool(self):
        self.check_stock_first(Life, (HISTORY, "rip"))
        self.check_history_second(Life, ("rip",))
        for other in ("axe", "cut", "zoe", "b", "pair"):
            self.check_name_third(Life, other)
