"""The text of a stock, told and read."""

import unittest

from edgeshop.errors import BadStock, BadText
from edgeshop.stocktexts import read_stock, stock_text
from tests.samples import LEAST_STOCK, STOCK, STOCK_TEXT, full_stock, odd_things, with_sort

ROWS = STOCK_TEXT.split("\n")


class Telling(unittest.TestCase):

    def test_a_row_for_each_thing(self):
        self.assertEqual(stock_text(STOCK), STOCK_TEXT)
        self.assertEqual(stock_text(LEAST_STOCK), "kind k 0")

    def test_anything_else_is_refused(self):
        for at, thing in enumerate(odd_things()):
            with self.subTest(at=at), self.assertRaises(BadStock) as told:
                stock_text(thing)
            self.assertEqual(told.exception.place, ("form",))
        with self.assertRaises(BadStock) as told:
            stock_text(with_sort(1, ("a", None)))
        self.assertEqual(told.exception.place, ("box", 1))


class Reading(unittest.TestCase):

    def refused(self, text, row):
        with self.assertRaises(BadText) as told:
            read_stock(text)
        self.assertIs(type(told.exception), BadText)
        self.assertEqual(told.exception.row, row)

    def in_place(self, number, row):
        """The sample with another row at that number."""
        return "\n".join(ROWS[:number] + [row] + ROWS[number + 1:])

    def test_what_is_told_is_read_again(self):
        for stock in (STOCK, LEAST_STOCK, full_stock()):
            self.assertEqual(read_stock(stock_text(stock)), stock)

    def test_a_stock_is_tuples_throughout(self):
        stock = read_stock(STOCK_TEXT)
        self.assertIs(type(stock), tuple)
        for things in stock:
            self.assertIs(type(things), tuple)
            for thing in things:
                self.assertIn(type(thing), (tuple, str))
        self.assertIs(type(stock[4][0][1]), tuple)
        self.assertIs(type(stock[2][0][2]), int)

    def test_sorts_may_lack_but_not_kinds(self):
        for sort in (3, 4, 5, 7):
            stock = with_sort(sort, ())
            self.assertEqual(read_stock(stock_text(stock)), stock)
        self.refused("", 0)
        for row in ROWS[3:]:
            self.refused(row, 0)
        self.refused("\n".join(ROWS[3:]), 0)
        self.refused("box a\nkind saw 3", 0)
        self.refused("box a\nnothing\n", 0)

    def test_what_is_no_text(self):
        for at, thing in enumerate(odd_things()):
            with self.subTest(at=at):
                self.refused(thing, 0 if type(thing) is str else -1)
        self.refused(ROWS, -1)
        self.refused(STOCK_TEXT.encode(), -1)

    def test_rows_are_just_such_rows(self):
        for number, row in enumerate(ROWS):
            words = row.split(" ")
            for wrong in ("", " ", row + " ", " " + row, row.replace(" ", "  ", 1), row.upper(), row + " 1",
                          row + " Saw", words[0], words[0] + "s" + row[len(words[0]):], " ".join(words[1:]),
                          " ".join(words[:-1]) + " " + "9" * 5000, " ".join(words[:-1]) + " " + "a" * 5000,
                          "9" * 5000, "a" * 5000):
                with self.subTest(row=row, wrong=wrong[:60]):
                    self.refused(self.in_place(number, wrong), number)

    def test_rows_lack_no_word_and_have_none_too_many(self):
        for number, row in enumerate(ROWS):
            if not row.startswith("set"):
                self.refused(self.in_place(number, row + " rip"), number)
                self.refused(self.in_place(number, row.rsplit(" ", 1)[0]), number)
        self.refused(self.in_place(17, "set"), 17)
        self.refused(self.in_place(17, "set one"), 17)
        self.refused(self.in_place(17, "set one big spare stone fine rip"), 17)
        self.refused(self.in_place(16, "set pair rip saw fine spare stone big"), 16)
        self.assertEqual(read_stock(self.in_place(16, "set pair rip saw fine spare stone"))[4][0][1],
                         ("rip", "saw", "fine", "spare", "stone"))

    def test_empty_rows(self):
        self.refused("\n" + STOCK_TEXT, 0)
        self.refused(STOCK_TEXT + "\n", len(ROWS))
        self.refused("\n".join(ROWS[:5] + [""] + ROWS[5:]), 5)
        self.refused("kind k 0\n\n", 1)

    def test_rows_out_of_the_order(self):
        # Each of these would stand well behind the last row of its own sort.
        for number, row in ((4, "kind new 1"), (6, "kind new 1"), (25, "kind new 1"), (28, "kind new 1"),
                            (7, "box new"), (12, "box new"), (13, "tool new axe 5 a"), (16, "tool new axe 5 a"),
                            (17, "hand new low"), (18, "hand new low"), (19, "set new fine"), (20, "set new fine"),
                            (21, "gauge new saw 3 4"), (25, "gauge new saw 3 4"), (26, "work new saw 1 2"),
                            (28, "work new saw 1 2")):
            with self.subTest(number=number, row=row):
                self.refused("\n".join(ROWS[:number] + [row] + ROWS[number:]), number)
                ends = [at for at, it in enumerate(ROWS) if it.split(" ")[0] == row.split(" ")[0]]
                read_stock("\n".join(ROWS[:ends[-1] + 1] + [row] + ROWS[ends[-1] + 1:]))

    def test_one_too_many_of_each_sort(self):
        full = stock_text(full_stock()).split("\n")
        more = {"kind": "kind new 1", "box": "box new", "tool": "tool new ka 5 ba", "hand": "hand new low",
                "set": "set new tl", "gauge": "gauge new ka 3 4", "work": "work new ka 1 2", "keep": "keep tl wa"}
        for sort, row in more.items():
            last = max(at for at, it in enumerate(full) if it.startswith(sort + " "))
            self.refused("\n".join(full[:last + 1] + [row] + full[last + 1:]), last + 1)
            # With one less of that sort the same row may stand there, where nothing behind needs what is gone.
            fewer = full[:last] + [row]
            self.assertEqual(stock_text(read_stock("\n".join(fewer))), "\n".join(fewer))

    def test_numbers_have_their_figures(self):
        for word in ("03", "00", "+3", "-3", "-0", "3.0", "3_0", "x", "0x3", "100", "1000", "999", "9" * 5000, ""):
            self.refused("kind saw " + word, 0)
            self.refused(self.in_place(6, "tool rip saw " + word + " a"), 6)
            self.refused(self.in_place(20, "work cut saw 0 " + word), 20)
            self.refused(self.in_place(20, "work cut saw " + word + " 99"), 20)
            self.refused(self.in_place(18, "gauge g saw " + word + " 99"), 18)
        for word, number in (("0", 0), ("9", 9), ("10", 10), ("99", 99)):
            self.assertEqual(read_stock("kind saw " + word)[0], (("saw", number),))

    def test_a_number_is_no_name_and_a_name_no_number(self):
        self.refused("kind 3 3", 0)
        self.refused("kind saw saw", 0)
        self.refused("kind saw 3\nbox 3", 1)
        self.refused("kind saw 3\nhand ann 3", 1)
        self.refused("kind saw 3\nhand 3 ann", 1)

    def test_names_have_1_to_8_letters(self):
        self.assertEqual(read_stock("kind a 0\nbox abcdefgh")[1], ("abcdefgh",))
        for name in ("abcdefghi", "Ab", "a-b", "a1", ""):
            self.refused("kind a 0\nbox " + name, 1)
            self.refused("kind " + name + " 0", 0)

    def test_names_and_numbers_told_ahead(self):
        self.refused(self.in_place(1, "kind saw 0"), 1)
        self.refused(self.in_place(5, "box a"), 5)
        self.refused(self.in_place(7, "tool rip saw 3 a"), 7)
        self.refused(self.in_place(7, "tool fine cut 3 a"), 7)
        self.refused(self.in_place(7, "tool fine saw 2 a"), 7)
        self.refused(self.in_place(7, "tool fine saw 3 ann"), 7)
        self.refused(self.in_place(15, "hand zoe new"), 15)
        self.refused(self.in_place(16, "set pair rip axe"), 16)
        self.refused(self.in_place(16, "set pair rip rip"), 16)
        self.refused(self.in_place(17, "set one rip"), 17)
        self.refused(self.in_place(17, "set pair big"), 17)
        self.refused(self.in_place(18, "gauge g cut 3 9"), 18)
        self.refused(self.in_place(18, "gauge g saw 9 3"), 18)
        self.refused(self.in_place(20, "work cut cut 3 9"), 20)
        self.refused(self.in_place(20, "work cut saw 9 3"), 20)
        self.refused(self.in_place(21, "work cut saw 3 9"), 21)
        self.refused(self.in_place(25, "keep nobody cut"), 25)
        self.refused(self.in_place(25, "keep rip rip"), 25)
        self.refused(self.in_place(25, "keep rip chop"), 25)
        self.refused(self.in_place(27, "keep rip cut"), 27)
        self.refused(self.in_place(27, "keep rip trim"), 27)

    def test_what_is_told_behind_is_not_there_yet(self):
        self.refused("kind saw 3\nbox a\ntool rip axe 5 a\nkind axe 0", 2)
        self.refused("kind saw 3\ntool rip saw 5 a\nbox a", 1)

    def test_the_first_row_is_told_whatever_stands_behind(self):
        self.refused("kind saw 3\nbox a\ntool rip axe 5 a\nno row at all\n", 2)
        self.refused("kind saw 3\nbox a\nno row at all\ntool rip axe 5 a", 2)
        self.refused("kind saw 3\nbox a\nbox a\n" + "\n" * 3000, 2)
        self.refused("\n" * 3000, 0)

    def test_names_may_be_words_of_rows_and_events(self):
        text = "kind kind 3\nbox box\ntool tool kind 3 box\nhand lend pass\nset set tool\nwork keep kind 3 3\nkeep tool keep"
        self.assertEqual(stock_text(read_stock(text)), text)
        self.assertEqual(read_stock(text)[7], (("tool", "keep"),))


if __name__ == "__main__":
    unittest.main()
