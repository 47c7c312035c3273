"""The text of a history, told and read."""

import random

from edgeshop.errors import BadStock, BadText
from edgeshop.events import holds
from edgeshop.eventtexts import history_text, read_history
from tests.refusals import Refusing
from tests.samples import HISTORY, LEAST_STOCK, STOCK, changed, gone_through, odd_things, some_history, with_sort

ROWS = [
    "10 lend rip zoe", "40 sharp rip b", "20 pass rip ann", "30 stone rip", "50 lend rip zoe", "60 lose rip",
    "70 find rip saw", "10 lend big saw", "30 lend saw a", "10 stone spare", "60 back big b", "999 lose saw",
    "0 lend fine zoe",
]
TEXT = "\n".join(ROWS)

SIXTY = [f"{time} {('lend rip ann', 'back rip a')[time % 2]}" for time in range(60)]


class Telling(Refusing):

    def test_a_row_for_each_event_as_they_were_told(self):
        self.assertEqual(history_text(STOCK, HISTORY), TEXT)
        self.assertEqual(history_text(STOCK, HISTORY[::-1]), "\n".join(ROWS[::-1]))
        self.assertEqual(history_text(STOCK, HISTORY[:1]), "10 lend rip zoe")

    def test_without_where_no_blank_stands_behind(self):
        self.assertEqual(history_text(STOCK, ((5, "stone", "rip", ""),)), "5 stone rip")
        self.assertEqual(history_text(STOCK, ((0, "lose", "rip", ""),)), "0 lose rip")

    def test_a_history_without_events_is_the_empty_text(self):
        self.assertEqual(history_text(STOCK, ()), "")
        self.assertEqual(history_text(LEAST_STOCK, ()), "")

    def test_refusals(self):
        self.check_stock_first(history_text, (HISTORY,))
        self.check_history_second(history_text, ())


class Reading(Refusing):

    def row_of(self, text, stock=STOCK):
        return self.refused(BadText, read_history, stock, text).row

    def in_place(self, number, row):
        """The sample with another row at that number."""
        return "\n".join(ROWS[:number] + [row] + ROWS[number + 1:])

    def test_what_is_told_is_read_again(self):
        for history in (HISTORY, HISTORY[::-1], tuple(sorted(HISTORY)), HISTORY[:1], ()):
            self.assertEqual(read_history(STOCK, history_text(STOCK, history)), history)
        self.assertEqual(read_history(STOCK, TEXT), HISTORY)

    def test_a_history_is_tuples_throughout(self):
        for event in read_history(STOCK, TEXT):
            self.assertIs(type(event), tuple)
            self.assertEqual([type(part) for part in event], [int, str, str, str])
        self.assertIs(type(read_history(STOCK, TEXT)), tuple)
        self.assertEqual(read_history(STOCK, "5 stone rip"), ((5, "stone", "rip", ""),))

    def test_the_empty_text(self):
        self.assertEqual(read_history(STOCK, ""), ())
        self.assertEqual(read_history(LEAST_STOCK, ""), ())

    def test_what_is_no_text(self):
        for at, thing in enumerate(odd_things()):
            if type(thing) is not str or thing != "":
                with self.subTest(at=at):
                    self.assertEqual(self.row_of(thing), 0 if type(thing) is str else -1)
        for thing in (ROWS, tuple(ROWS), TEXT.encode(), HISTORY, STOCK):
            self.assertEqual(self.row_of(thing), -1)

    def test_line_ends_ahead_behind_and_twice(self):
        self.assertEqual(self.row_of("\n"), 0)
        self.assertEqual(self.row_of("\n" + TEXT), 0)
        self.assertEqual(self.row_of(TEXT + "\n"), len(ROWS))
        self.assertEqual(self.row_of(TEXT.replace("\n", "\n\n", 1)), 1)
        self.assertEqual(self.row_of("5 stone rip\n"), 1)
        self.assertEqual(self.row_of("5 stone rip\n\n"), 1)

    def test_rows_are_just_such_rows(self):
        for number, row in enumerate(ROWS):
            time, word, tool = row.split(" ")[:3]
            where = row.split(" ")[3:]
            for wrong in ("", " ", row + " ", " " + row, row.replace(" ", "  ", 1), " ".join(row.rsplit(" ", 1)[:1]) + "  x",
                          row.upper(), row.capitalize() + ".", row + " 1", row + " rip", row + "  ", row + "\t",
                          row.replace(" ", "\t"), row.replace(" ", ",", 1), row.replace(" ", ""),
                          time, f"{time} {word}", f"{word} {time} {tool}", f"{word} {tool}", f"{time} {tool} {word}",
                          " ".join([time, word.title(), tool, *where]), " ".join([time, word + "s", tool, *where]),
                          " ".join([time, "9" * 5000, tool, *where]), " ".join([time, word, "9" * 5000, *where]),
                          " ".join([time, word, "a" * 5000, *where]), " ".join([time, word, tool, "9" * 5000]),
                          " ".join([time, word, tool, "a" * 5000]), " ".join(["9" * 5000, word, tool, *where]),
                          " ".join([time, word, tool, *where, "9" * 5000]), "9" * 5000, "a" * 5000, " " * 5000):
                with self.subTest(row=row, wrong=wrong[:60]):
                    self.assertEqual(self.row_of(self.in_place(number, wrong)), number)

    def test_numbers_have_their_figures(self):
        for number in (0, 3, 11, 12):
            words = ROWS[number].split(" ")[1:]
            for time in ("00", "01", "05", "010", "0999", "-1", "+1", "-0", "1.0", "1_0", "1e1", "", "one", "1000",
                         "5 ", "0x1", "True", "9999", "\n5"):
                with self.subTest(number=number, time=time):
                    row = self.row_of(self.in_place(number, " ".join([time, *words])))
                    self.assertEqual(row, number)
        for time in (0, 1, 9, 10, 99, 100, 998, 999):
            self.assertEqual(read_history(STOCK, f"{time} stone rip"), ((time, "stone", "rip", ""),))

    def test_where_is_as_its_word_wants_it(self):
        # "saw" and "a" are hands and boxes, "zoe" is a hand only, "b" a box only.
        for row in ("5 lend rip", "5 pass rip", "5 back rip", "5 sharp rip", "5 find rip",
                    "5 lend rip b", "5 pass rip b", "5 back rip zoe", "5 sharp rip zoe", "5 find rip zoe",
                    "5 stone rip a", "5 lose rip a", "5 stone rip ", "5 lose rip ", "5 lend rip ", "5 back rip ",
                    "5 lend rip low", "5 lend rip zoe ann", "5 stone rip a a", "5 stone", "5 lend zoe", "5 lend zoe rip"):
            with self.subTest(row=row):
                self.assertEqual(self.row_of(row), 0)
                self.assertEqual(self.row_of(TEXT + "\n" + row), len(ROWS))

    def test_words_and_names_that_are_not_there(self):
        for row in ("5 lost rip", "5 box rip a", "5 hand rip ann", "5 tool rip", "5 stone cut", "5 stone axe",
                    "5 stone zoe", "5 lose nobody", "5 lend nobody ann", "5 lend rip nobody", "5 stone pair"):
            with self.subTest(row=row):
                self.assertEqual(self.row_of(self.in_place(4, row)), 4)
        self.assertEqual(self.row_of("5 stone rip", LEAST_STOCK), 0)

    def test_a_second_event_of_one_tool_and_time(self):
        for row in ROWS:
            self.assertEqual(self.row_of(TEXT + "\n" + row), len(ROWS))
        for row in ROWS[:12]:
            self.assertEqual(self.row_of(self.in_place(12, row)), 12)
        self.assertEqual(self.row_of(TEXT + "\n40 lose rip"), len(ROWS))
        self.assertEqual(self.row_of("5 lend rip ann\n5 lend big ann\n6 back rip a\n5 back rip a"), 3)
        # Unlike tools may have one TIME.
        self.assertEqual(len(read_history(STOCK, "5 lend rip ann\n5 lend big ann\n5 stone saw")), 3)

    def test_sixty_rows_and_one_more(self):
        self.assertEqual(len(read_history(STOCK, "\n".join(SIXTY))), 60)
        self.assertEqual(self.row_of("\n".join(SIXTY + ["60 lend rip ann"])), 60)
        self.assertEqual(self.row_of("\n".join(SIXTY + ["60 lend big ann", "61 lend big ann"])), 60)
        self.assertEqual(self.row_of("\n".join(SIXTY + [""])), 60)
        self.assertEqual(self.row_of("\n".join(SIXTY + SIXTY[:1])), 60)
        self.assertEqual(self.row_of("\n".join(SIXTY + ["x"] * 5000)), 60)
        self.assertEqual(self.row_of("\n".join(SIXTY[:59] + ["x"] * 5000)), 59)

    def test_the_first_row_that_can_not_stand_is_told(self):
        # By form, names and what is told twice alike: none of these goes ahead of another.
        twice, form, name = ROWS[0], "5  stone rip", "5 stone cut"
        for rows in ((twice, form, name), (form, name, twice), (name, twice, form)):
            self.assertEqual(self.row_of("\n".join(ROWS[:3] + list(rows))), 3)
        self.assertEqual(self.row_of("\n".join(ROWS[:3] + ["1 lend spare ann", twice, form])), 4)
        self.assertEqual(self.row_of("\n".join(ROWS[:3] + ["1 lend spare ann", form, twice])), 4)
        self.assertEqual(self.row_of("\n".join(SIXTY[:58] + [form] + SIXTY[58:] + SIXTY)), 58)

    def test_the_event_by_which_it_does_not_hold_is_told_behind_all_that(self):
        self.assertEqual(self.row_of("5 back rip a"), 0)
        self.assertEqual(self.row_of("9 back rip a\n7 back big a\n7 back spare a\n8 back saw a"), 1)
        self.assertEqual(self.row_of("8 back saw a\n7 back spare a\n7 back big a\n9 back rip a"), 1)
        self.assertEqual(self.row_of("7 back rip a\n6 lend rip ann\n8 find rip a"), 2)
        self.assertEqual(self.row_of("5 lend rip a\n6 pass rip a"), 1)
        self.assertEqual(self.row_of("5 stone fine"), 0)
        for behind in ("x", "5 back rip a", "6 stone cut", "06 stone rip", ""):
            self.assertEqual(self.row_of("5 back rip a\n" + behind), 1)
        self.assertEqual(self.row_of("\n".join(["0 back big a"] + SIXTY)), 60)
        self.assertEqual(self.row_of("\n".join(["0 back big a"] + SIXTY[:59])), 0)

    def test_as_gone_through_event_by_event(self):
        dice = random.Random(3)
        broken = 0
        for _ in range(200):
            history = some_history(dice)
            text = "\n".join(f"{time} {word} {tool} {where}".rstrip() for time, word, tool, where in history)
            number, _, _ = gone_through(history)
            if number is None:
                self.assertEqual(read_history(STOCK, text), history)
                self.assertEqual(history_text(STOCK, history), text)
            else:
                broken += 1
                self.assertIs(holds(STOCK, history), False)
                self.assertEqual(self.row_of(text), number)
        self.assertTrue(50 < broken < 150, broken)

    def test_a_stock_is_refused_first(self):
        self.check_stock_first(read_history, (TEXT,))
        self.check_stock_first(read_history, ("5 nothing",))
        self.assertEqual(self.refused(BadStock, read_history, with_sort(7, (None,)), None).place, ("keep", 0))

    def test_what_is_handed_in_is_not_changed(self):
        rows = list(ROWS)
        self.assertEqual(self.row_of(rows), -1)
        self.assertEqual(rows, ROWS)

    def test_names_may_be_words(self):
        stock = ((("lost", 1),), ("stone", "lost"), (("back", "lost", 2, "stone"), ("lose", "lost", 2, "lost")),
                 (("lend", "stone"),), (), (), (), ())
        history = ((1, "lend", "back", "lend"), (1, "lose", "lose", ""), (2, "back", "back", "lost"))
        text = "1 lend back lend\n1 lose lose\n2 back back lost"
        self.assertEqual(history_text(stock, history), text)
        self.assertEqual(read_history(stock, text), history)
        self.assertEqual(self.row_of("1 lend lend back", stock), 0)
        self.assertEqual(read_history(stock, history_text(stock, changed(history, 0, (0, "lose", "back", ""))[:2])),
                         ((0, "lose", "back", ""), (1, "lose", "lose", "")))
