"""What all questions of a stock and a history refuse alike, and in which order."""

import unittest

from edgeshop.errors import BadHistory, BadQuestion, BadStock, NoSuch
from tests.samples import HISTORY, LEAST_STOCK, STOCK, deep, odd_things, with_sort

# Of the right form, but the event can't stand: rip is in a box.
UNHELD = ((5, "back", "rip", "a"),)


class Refusing(unittest.TestCase):

    def refused(self, error, ask, *handed, **named):
        """The error itself, of just that class."""
        with self.assertRaises(error) as told:
            ask(*handed, **named)
        self.assertIs(type(told.exception), error)
        return told.exception

    def check_stock_first(self, ask, behind):
        """That a stock is refused ahead of all that stands behind it, be it right or wrong."""
        for at, thing in enumerate(odd_things()):
            with self.subTest(ask=ask, at=at):
                self.assertEqual(self.refused(BadStock, ask, thing, *[None] * len(behind)).place, ("form",))
                self.assertEqual(self.refused(BadStock, ask, thing, *behind).place, ("form",))
        wrong = with_sort(7, (("rip", "cut"), deep()))
        self.assertEqual(self.refused(BadStock, ask, wrong, *behind).place, ("keep", 1))
        self.assertEqual(self.refused(BadStock, ask, wrong, *[None] * len(behind)).place, ("keep", 1))

    def check_history_second(self, ask, names):
        """That a history is refused behind the stock, ahead of names and of what is behind these."""
        wrong = [None] * len(names)
        for at, thing in enumerate(odd_things()):
            place = ("form", 0) if type(thing) is tuple else ("form", -1)
            if type(thing) is not tuple or thing != ():
                with self.subTest(ask=ask, at=at):
                    self.assertEqual(self.refused(BadHistory, ask, STOCK, thing, *wrong).place, place)
                    self.assertEqual(self.refused(BadHistory, ask, STOCK, thing, *names).place, place)
        for history, place in ((list(HISTORY), ("form", -1)), ((None,) * 61, ("form", -1)),
                               (HISTORY + (deep(),), ("form", len(HISTORY))),
                               (UNHELD + UNHELD, ("twice", 1)), (UNHELD, ("holds", 0))):
            self.assertEqual(self.refused(BadHistory, ask, STOCK, history, *wrong).place, place)
            self.assertEqual(self.refused(BadHistory, ask, STOCK, history, *names).place, place)
        self.assertEqual(self.refused(BadHistory, ask, LEAST_STOCK, UNHELD, *names).place, ("form", 0))

    def check_no_such(self, thing, ask, *handed, **named):
        self.assertIs(self.refused(NoSuch, ask, *handed, **named).name, thing)

    def check_name_third(self, ask, other, *behind):
        """That a name, the first one behind the history, is refused ahead of what is behind it."""
        for at, thing in enumerate([other] + odd_things()):
            with self.subTest(ask=ask, at=at):
                self.check_no_such(thing, ask, STOCK, HISTORY, thing)
                self.check_no_such(thing, ask, STOCK, HISTORY, thing, *behind)

    def check_time_last(self, ask, names):
        """That what is no TIME is refused, by its place and by its name."""
        for at, thing in enumerate(odd_things()):
            with self.subTest(ask=ask, at=at):
                self.refused(BadQuestion, ask, STOCK, HISTORY, *names, thing)
                self.refused(BadQuestion, ask, STOCK, HISTORY, *names, time=thing)

    def check_time_left_out(self, ask, names):
        """That the TIME may be handed in by its place, by its name, or not at all: then it is 999."""
        for time in (0, 10, 30, 60, 998, 999):
            self.assertEqual(ask(STOCK, HISTORY, *names, time), ask(STOCK, HISTORY, *names, time=time))
        self.assertEqual(ask(STOCK, HISTORY, *names), ask(STOCK, HISTORY, *names, 999))

    def check_own(self, ask, *handed, **named):
        """That a told list that is changed changes nothing that is told later."""
        told = ask(*handed, **named)
        self.assertIs(type(told), list)
        kept = list(told)
        told.reverse()
        told.append("new")
        self.assertEqual(ask(*handed, **named), kept)
        told.clear()
        self.assertEqual(ask(*handed, **named), kept)
