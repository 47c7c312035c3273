"""TIME, SIZE, NAME and the stock."""

import unittest

from edgeshop import stocks
from edgeshop.errors import BadStock, NoSuch
from tests.samples import BOXES, GAUGES, HANDS, KEEPS, KINDS, LEAST_STOCK, SETS, STOCK, TOOLS, WORKS
from tests.samples import Equal, changed, deep, full_stock, odd_things, with_sort

SORTS = ("kind", "box", "tool", "hand", "set", "gauge", "work", "keep")


class Refusing(unittest.TestCase):

    def place(self, thing):
        with self.assertRaises(BadStock) as told:
            stocks.need_stock(thing)
        self.assertIs(type(told.exception), BadStock)
        return told.exception.place

    def refused(self, sort, things, number=None):
        """That the last of the things, or that of the number, is told as the first that is none."""
        number = len(things) - 1 if number is None else number
        self.assertEqual(self.place(with_sort(sort, things)), (SORTS[sort], number))

    def taken(self, sort, things):
        stock = with_sort(sort, things)
        self.assertIs(stocks.need_stock(stock), stock)


class Words(unittest.TestCase):

    def test_a_time_is_from_0_to_999(self):
        for thing in (0, 1, 99, 100, 500, 998, 999):
            self.assertIs(stocks.is_time(thing), True)
        for thing in (-1, 1000, 10 ** 30):
            self.assertIs(stocks.is_time(thing), False)

    def test_a_size_is_from_0_to_99(self):
        for thing in (0, 1, 50, 98, 99):
            self.assertIs(stocks.is_size(thing), True)
        for thing in (-1, 100, 999):
            self.assertIs(stocks.is_size(thing), False)

    def test_a_name_is_1_to_8_letters(self):
        for thing in ("a", "z", "saw", "abcdefgh", "zzzzzzzz", "lend", "kind"):
            self.assertIs(stocks.is_name(thing), True)
        for thing in ("", "abcdefghi", "A", "aB", "a1", "1", "a b", " a", "a ", "a\n", "`", "{", "a_", "a-b"):
            self.assertIs(stocks.is_name(thing), False)

    def test_truths_and_texts_are_no_numbers(self):
        for thing in (True, False, "1", "0", None, [1], (1,)):
            self.assertIs(stocks.is_time(thing), False)
            self.assertIs(stocks.is_size(thing), False)

    def test_lists_of_letters_and_bytes_are_no_names(self):
        for thing in (["a"], ("a",), b"a", {"a": 1}, {"a"}):
            self.assertIs(stocks.is_name(thing), False)

    def test_anything_is_answered(self):
        for at, thing in enumerate(odd_things()):
            with self.subTest(at=at):
                self.assertIs(stocks.is_time(thing), type(thing) is int and 0 <= thing <= 999)
                self.assertIs(stocks.is_size(thing), False)
                self.assertIs(stocks.is_name(thing), type(thing) is str and thing in
                              ("nobody", "lost", "stones", "tool"))


class NeedStock(Refusing):

    def test_a_stock_is_told_itself(self):
        for stock in (STOCK, LEAST_STOCK, full_stock()):
            self.assertIs(stocks.need_stock(stock), stock)

    def test_anything_else_is_refused_by_its_form(self):
        for at, thing in enumerate(odd_things()):
            with self.subTest(at=at):
                self.assertEqual(self.place(thing), ("form",))

    def test_tuples_in_tuples_are_looked_at_as_things(self):
        self.assertEqual(self.place((deep(),) * 8), ("kind", 0))

    def test_eight_tuples(self):
        self.assertEqual(self.place(STOCK[:7]), ("form",))
        self.assertEqual(self.place(STOCK + ((),)), ("form",))
        self.assertEqual(self.place(list(STOCK)), ("form",))
        for sort in range(8):
            self.assertEqual(self.place(with_sort(sort, list(STOCK[sort]))), ("form",))
            for thing in odd_things():
                if type(thing) is not tuple:
                    self.assertEqual(self.place(with_sort(sort, thing)), ("form",))

    def test_at_least_one_kind(self):
        self.assertEqual(self.place(((),) * 8), ("form",))

    def test_no_more_of_each_sort_than_there_may_be(self):
        for sort in range(8):
            self.assertEqual(self.place(full_stock(sort)), ("form",))

    def test_the_form_is_refused_ahead_of_the_things(self):
        self.assertEqual(self.place(((None,),) + STOCK[1:7] + (None,)), ("form",))
        self.assertEqual(self.place(((None,),) + STOCK[1:7] + ((None,) * 7,)), ("form",))

    def test_anything_in_a_sort_is_refused_by_its_number(self):
        for sort in range(8):
            for at, thing in enumerate(odd_things()):
                if sort == 1 and stocks.is_name(thing):
                    continue
                with self.subTest(sort=sort, at=at):
                    self.refused(sort, STOCK[sort][:1] + (thing,))

    def test_anything_within_a_thing_is_refused(self):
        for sort in (0, 2, 3, 4, 5, 6, 7):
            first = STOCK[sort][0]
            for part in range(len(first)):
                for at, thing in enumerate(odd_things()):
                    if stocks.is_name(thing) and (part == 0 or sort == 3) and sort != 7:
                        continue
                    with self.subTest(sort=sort, part=part, at=at):
                        self.refused(sort, (changed(first, part, thing),))

    def test_things_are_tuples_of_just_so_many(self):
        for sort in (0, 2, 3, 4, 5, 6, 7):
            first = STOCK[sort][0]
            self.refused(sort, (first[:-1],))
            self.refused(sort, (first + first[-1:],))
            self.refused(sort, (list(first),))

    def test_the_first_is_told_sort_by_sort(self):
        stock = STOCK
        for sort in range(7, -1, -1):
            stock = with_sort(sort, STOCK[sort][:1] + (None, None), stock)
            self.assertEqual(self.place(stock), (SORTS[sort], 1))

    def test_what_is_refused_is_not_changed(self):
        thing = [list(things) for things in STOCK]
        self.place(thing)
        self.assertEqual(thing, [list(things) for things in STOCK])
        pieces = ["rip"]
        self.place(with_sort(4, (("pair", pieces),)))
        self.assertEqual(pieces, ["rip"])


class Sorts(Refusing):

    def test_kinds(self):
        self.taken(0, KINDS + (("abcdefgh", 0), ("z", 99), ("find", 50)))
        self.refused(0, KINDS + (("z", 100),))
        self.refused(0, KINDS + (("z", -1),))
        self.refused(0, KINDS + (("z", True),))
        self.refused(0, KINDS + (("abcdefghi", 1),))
        self.refused(0, KINDS + (("saw", 5),))

    def test_boxes(self):
        self.taken(1, BOXES + ("abcdefgh", "lend"))
        self.refused(1, BOXES + ("abcdefghi",))
        self.refused(1, BOXES + ("",))
        self.refused(1, BOXES + (("c",),))
        self.refused(1, BOXES + ("saw",))

    def test_tools(self):
        self.taken(2, TOOLS + (("new", "axe", 0, "a"), ("newer", "saw", 99, "b"), ("newest", "saw", 3, "b")))
        self.refused(2, TOOLS + (("new", "saw", 2, "a"),))
        self.refused(2, TOOLS + (("new", "saw", 100, "a"),))
        self.refused(2, TOOLS + (("new", "axe", True, "a"),))
        self.refused(2, TOOLS + (("new", "cut", 5, "a"),))
        self.refused(2, TOOLS + (("new", "saw", 5, "ann"),))
        self.refused(2, TOOLS + (("rip", "saw", 7, "a"),))
        self.refused(2, TOOLS + (("New", "saw", 7, "a"),))

    def test_hands(self):
        self.taken(3, HANDS + (("abcdefgh", "h"),))
        self.taken(3, (("ann", "ann"),))
        self.refused(3, HANDS + (("new", ""),))
        self.refused(3, HANDS + (("new", "abcdefghi"),))
        self.refused(3, HANDS + (("", "low"),))
        self.refused(3, HANDS + (("ann", "new"),))

    def test_sets(self):
        self.taken(4, (("saw", ("spare", "big", "rip", "fine", "saw")),))
        self.taken(4, SETS + (("three", ("spare",)), ("four", ("stone",))))
        self.refused(4, SETS + (("three", ()),))
        self.refused(4, (("six", ("spare", "big", "rip", "fine", "saw", "stone")),))
        self.refused(4, SETS + (("three", ["spare"]),))
        self.refused(4, SETS + (("three", "spare"),))
        self.refused(4, SETS + (("three", ("axe",)),))
        self.refused(4, SETS + (("three", ("spare", "axe")),))
        self.refused(4, SETS + (("three", ("spare", "spare")),))
        self.refused(4, SETS + (("three", ("stone", "spare", "stone")),))
        self.refused(4, SETS + (("three", ("spare", "big")),))
        self.refused(4, SETS + (("pair", ("spare",)),))
        self.refused(4, SETS + (("", ("spare",)),))

    def test_a_piece_of_any_kind_is_refused(self):
        for thing in odd_things():
            self.refused(4, SETS + (("three", ("spare", thing)),))

    def test_gauges_and_works(self):
        for sort in (5, 6):
            first = STOCK[sort][:2]
            self.taken(sort, GAUGES[:0] + STOCK[sort] + (("new", "saw", 0, 0),))
            self.refused(sort, first + (("new", "saw", 5, 4),))
            self.refused(sort, first + (("new", "saw", 5, 100),))
            self.refused(sort, first + (("new", "saw", -1, 5),))
            self.refused(sort, first + (("new", "saw", False, 5),))
            self.refused(sort, first + (("new", "saw", 0, True),))
            self.refused(sort, first + (("new", "cut", 0, 5),))
            self.refused(sort, first + (("news!", "saw", 0, 5),))
            self.refused(sort, first + (first[0],))

    def test_sizes_of_a_work_may_be_below_the_kinds_least(self):
        self.taken(6, WORKS + (("low", "saw", 0, 1),))
        self.taken(5, (("low", "lend", 0, 0),))

    def test_keeps(self):
        self.taken(7, KEEPS + (("big", "split"), ("stone", "saw"), ("spare", "trim")))
        self.refused(7, KEEPS + (("spare", "chop"),))
        self.refused(7, KEEPS + (("axe", "chop"),))
        self.refused(7, KEEPS + (("big", "axe"),))
        self.refused(7, KEEPS + (("rip", "cut"),))
        self.refused(7, KEEPS + (("rip", "trim"),))

    def test_keeps_are_refused_by_the_second_of_one_tool(self):
        self.refused(7, (("rip", "cut"), ("big", "chop"), ("rip", "trim"), ("big", "chop")), 2)

    def test_only_what_stands_ahead_counts(self):
        self.refused(4, (("pair", ("rip", "saw")), ("two", ("rip",)), ("pair", ("big",))), 1)
        self.refused(0, (("k", 1), ("l", 1), ("k", 2), ("l", 2)), 2)

    def test_names_of_two_sorts_may_be_alike(self):
        stock = (
            (("lend", 1),), ("lend",), (("lend", "lend", 1, "lend"),), (("lend", "lend"),),
            (("lend", ("lend",)),), (("lend", "lend", 1, 1),), (("lend", "lend", 1, 1),), (("lend", "lend"),),
        )
        self.assertIs(stocks.need_stock(stock), stock)


class Asking(unittest.TestCase):

    def test_things_by_their_names(self):
        for tool in TOOLS:
            self.assertEqual(stocks.tool_of(STOCK, tool[0]), tool)
        for work in WORKS:
            self.assertEqual(stocks.work_of(STOCK, work[0]), work)
        for kind in KINDS:
            self.assertEqual(stocks.kind_of(STOCK, kind[0]), kind)

    def test_benches(self):
        self.assertEqual([stocks.bench_of(STOCK, hand) for hand in ("zoe", "ann", "saw", "a")],
                         ["low", "top", "low", "mid"])
        told = stocks.benches(STOCK)
        self.assertEqual(list(told.items()), [("low", ["zoe", "saw"]), ("mid", ["a"]), ("top", ["ann"])])
        self.assertEqual(stocks.benches(LEAST_STOCK), {})

    def test_sets_and_keeps(self):
        tools = [tool[0] for tool in TOOLS]
        self.assertEqual([stocks.set_of(STOCK, tool) for tool in tools], ["pair", None, "pair", "one", None, None])
        self.assertEqual([stocks.kept_for(STOCK, tool) for tool in tools], ["cut", "cut", "split", None, None, None])

    def test_names_that_are_not_there(self):
        asked = {
            stocks.tool_of: "axe", stocks.work_of: "rip", stocks.kind_of: "rip", stocks.bench_of: "low",
            stocks.set_of: "pair", stocks.kept_for: "cut",
        }
        for ask, name in asked.items():
            for at, thing in enumerate([name] + odd_things()):
                with self.subTest(ask=ask, at=at), self.assertRaises(NoSuch) as told:
                    ask(STOCK, thing)
                self.assertIs(type(told.exception), NoSuch)
                self.assertIs(told.exception.name, thing)

    def test_a_stock_is_refused_ahead_of_a_name(self):
        for ask in (stocks.tool_of, stocks.work_of, stocks.kind_of, stocks.bench_of, stocks.set_of, stocks.kept_for):
            for at, thing in enumerate(odd_things()):
                with self.subTest(ask=ask, at=at), self.assertRaises(BadStock) as told:
                    ask(thing, None)
                self.assertEqual(told.exception.place, ("form",))
            with self.assertRaises(BadStock) as told:
                ask(with_sort(6, (None,)), None)
            self.assertEqual(told.exception.place, ("work", 0))

    def test_benches_refuse_a_stock(self):
        for thing in odd_things() + [with_sort(3, (("ann", deep()),))]:
            with self.assertRaises(BadStock):
                stocks.benches(thing)

    def test_what_is_told_is_the_askers_own(self):
        told = stocks.benches(STOCK)
        told["low"].append("rip")
        told["new"] = []
        self.assertEqual(stocks.benches(STOCK), {"low": ["zoe", "saw"], "mid": ["a"], "top": ["ann"]})

    def test_a_name_handed_in_is_not_changed(self):
        name = ["rip"]
        with self.assertRaises(NoSuch):
            stocks.tool_of(STOCK, name)
        self.assertEqual(name, ["rip"])

    def test_what_is_equal_to_anything_is_no_name(self):
        with self.assertRaises(NoSuch):
            stocks.tool_of(STOCK, Equal())


if __name__ == "__main__":
    unittest.main()
