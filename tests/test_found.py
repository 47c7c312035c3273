"""What a found one can be, what boxes hold, which of them are alike."""

import random

from edgeshop.errors import BadHistory, BadQuestion, BadStock
from edgeshop.events import holds, in_box, lost_ones, size_of
from edgeshop.found import Contents, alike_boxes, can_be
from edgeshop.lives import Life
from edgeshop.stocks import need_stock
from tests.refusals import UNHELD, Refusing
from tests.samples import HISTORY, LEAST_STOCK, STOCK, TOOLS, Equal, odd_things, some_history, with_sort

# a and b hold the same at first, as c and d do, which hold nothing.
STORE = need_stock((
    (("saw", 2), ("axe", 0)),
    ("a", "c", "b", "e", "d"),
    (("one", "saw", 9, "a"), ("two", "saw", 9, "a"), ("chip", "axe", 10, "a"), ("hew", "axe", 10, "b"),
     ("three", "saw", 9, "b"), ("four", "saw", 9, "b"), ("five", "saw", 8, "e"), ("six", "axe", 9, "e")),
    (("ann", "top"),), (), (), (), ()))

LOST = ((5, "lose", "one", ""), (6, "lose", "three", ""), (7, "lose", "chip", ""), (8, "lose", "five", ""),
        (1, "stone", "two", ""), (2, "sharp", "two", "a"), (9, "lose", "two", ""), (20, "find", "three", "c"))


class CanBe(Refusing):

    def test_none_one_and_several(self):
        told = {4: [], 5: ["one"], 6: ["one", "three"], 19: ["one", "three"], 20: ["one"], 999: ["one"]}
        for time, names in told.items():
            self.assertEqual(can_be(STORE, LOST, "saw", 9, time), names)
        self.assertEqual(can_be(STORE, LOST, "saw", 9), ["one"])

    def test_of_that_kind_and_of_that_size_then(self):
        # two was sharpened once, and is then of the size that five has.
        self.assertEqual(can_be(STORE, LOST, "saw", 8, 7), [])
        self.assertEqual(can_be(STORE, LOST, "saw", 8, 8), ["five"])
        self.assertEqual(can_be(STORE, LOST, "saw", 8, 9), ["two", "five"])
        self.assertEqual(can_be(STORE, LOST, "axe", 10, 6), [])
        self.assertEqual(can_be(STORE, LOST, "axe", 10, 7), ["chip"])
        for size in (0, 7, 10, 99):
            self.assertEqual(can_be(STORE, LOST, "saw", size, 10), [])
        for size in (0, 8, 9, 11):
            self.assertEqual(can_be(STORE, LOST, "axe", size, 10), [])

    def test_those_that_are_lost_alone(self):
        history = ((1, "lend", "one", "ann"), (1, "stone", "three", ""), (1, "lose", "four", ""))
        self.assertEqual(can_be(STORE, history, "saw", 9, 0), [])
        self.assertEqual(can_be(STORE, history, "saw", 9, 1), ["four"])
        self.assertEqual(can_be(STORE, (), "saw", 9), [])
        self.assertEqual(can_be(LEAST_STOCK, (), "k", 0), [])

    def test_told_late_is_as_told_in_time(self):
        for time in (0, 5, 6, 7, 8, 9, 20, 999):
            for size in (8, 9):
                self.assertEqual(can_be(STORE, LOST[::-1], "saw", size, time), can_be(STORE, LOST, "saw", size, time))
        self.assertEqual(can_be(STORE, ((0, "lose", "one", ""),), "saw", 9, 0), ["one"])

    def test_as_each_tool_for_itself_tells(self):
        dice = random.Random(28)
        asked = 0
        while asked < 300:
            history = some_history(dice)
            if not holds(STOCK, history):
                continue
            for time in (3, 6, 999):
                for kind, size in (("saw", 7), ("saw", 6), ("axe", 2), ("axe", 1), ("axe", 99), ("axe", 98)):
                    lost = [name for name, its, _, _ in TOOLS if its == kind and name in lost_ones(STOCK, history, time)
                            and size_of(STOCK, history, name, time) == size]
                    asked += lost != []
                    self.assertEqual(can_be(STOCK, history, kind, size, time), lost)

    def test_refusals(self):
        self.check_stock_first(can_be, (LOST, "saw", 9, 5))
        self.check_history_second(can_be, ("saw", 9, 5))
        for at, thing in enumerate(["rip", "cut", "zoe", "b"] + odd_things()):
            with self.subTest(at=at):
                self.check_no_such(thing, can_be, STOCK, HISTORY, thing, 7)
                self.check_no_such(thing, can_be, STOCK, HISTORY, thing, None, None)
        self.check_time_last(can_be, ("saw", 7))
        for kind, size in (("saw", 7), ("saw", 6), ("axe", 2)):
            self.check_time_left_out(can_be, (kind, size))
        self.assertEqual(can_be(STOCK, HISTORY, "axe", 2), ["saw"])
        self.assertEqual(can_be(STOCK, HISTORY, "axe", 2, 998), [])
        for at, thing in enumerate(odd_things() + [100, "7"]):
            with self.subTest(at=at):
                self.refused(BadQuestion, can_be, STOCK, HISTORY, "saw", thing)
                self.refused(BadQuestion, can_be, STOCK, HISTORY, "saw", thing, 5)
        self.check_own(can_be, STORE, LOST, "saw", 9, 6)
        self.check_own(can_be, STORE, LOST, "saw", 0, 6)


class Holding(Refusing):

    def test_kinds_and_sizes_each_as_often_as_there_are_such(self):
        told = {"a": [("axe", 10, 1), ("saw", 9, 2)], "b": [("axe", 10, 1), ("saw", 9, 2)], "c": [], "d": [],
                "e": [("axe", 9, 1), ("saw", 8, 1)]}
        for box, rows in told.items():
            contents = Contents(STORE, (), box)
            self.assertEqual(contents.rows(), rows)
            self.assertEqual(len(contents), sum(row[2] for row in rows))

    def test_as_a_text(self):
        told = {"a": "axe 10, saw 9, saw 9", "b": "axe 10, saw 9, saw 9", "c": "", "d": "", "e": "axe 9, saw 8"}
        for box, text in told.items():
            self.assertEqual(str(Contents(STORE, (), box)), text)

    def test_sizes_rise_as_numbers_behind_kinds(self):
        stock = with_sort(2, tuple((name, kind, size, "a") for name, kind, size in (
            ("one", "saw", 10), ("two", "axe", 11), ("three", "saw", 9), ("four", "axe", 99), ("five", "axe", 2),
            ("six", "saw", 10))), STORE)
        contents = Contents(stock, (), "a")
        self.assertEqual(contents.rows(), [("axe", 2, 1), ("axe", 11, 1), ("axe", 99, 1), ("saw", 9, 1),
                                           ("saw", 10, 2)])
        self.assertEqual(str(contents), "axe 2, axe 11, axe 99, saw 9, saw 10, saw 10")
        self.assertEqual(len(contents), 6)

    def test_at_a_time(self):
        told = {0: "axe 10, saw 9, saw 9", 1: "axe 10, saw 9", 2: "axe 10, saw 8, saw 9", 5: "axe 10, saw 8",
                7: "saw 8", 9: "", 999: ""}
        for time, text in told.items():
            self.assertEqual(str(Contents(STORE, LOST, "a", time)), text)
            self.assertEqual(str(Contents(STORE, LOST[::-1], "a", time=time)), text)
        self.assertEqual(Contents(STORE, LOST, "c", 19).rows(), [])
        self.assertEqual(Contents(STORE, LOST, "c").rows(), [("saw", 9, 1)])

    def test_only_what_is_in_the_box(self):
        history = ((1, "lend", "one", "ann"), (1, "stone", "two", ""), (1, "lose", "chip", ""),
                   (1, "lend", "five", "ann"),
                   (2, "back", "five", "a"))
        self.assertEqual(Contents(STORE, history, "a", 1).rows(), [])
        self.assertEqual(Contents(STORE, history, "a", 2).rows(), [("saw", 8, 1)])
        self.assertEqual(Contents(STORE, history, "e").rows(), [("axe", 9, 1)])

    def test_equal_where_both_hold_the_same(self):
        self.assertTrue(Contents(STORE, (), "a") == Contents(STORE, (), "b"))
        self.assertFalse(Contents(STORE, (), "a") != Contents(STORE, (), "b"))
        self.assertTrue(Contents(STORE, (), "c") == Contents(STORE, (), "d"))
        self.assertFalse(Contents(STORE, (), "a") == Contents(STORE, (), "c"))
        self.assertFalse(Contents(STORE, (), "a") == Contents(STORE, (), "e"))
        # Of the same kinds and sizes, but not as often.
        self.assertFalse(Contents(STORE, LOST, "a", 5) == Contents(STORE, LOST, "b", 5))
        history = ((5, "lose", "one", ""),)
        self.assertFalse(Contents(STORE, history, "a") == Contents(STORE, history, "b"))
        self.assertTrue(Contents(STORE, history, "a") == Contents(STORE, history + ((6, "lose", "four", ""),), "b"))
        # As many, but of another kind or another size.
        for one, other in ((("saw", 9), ("axe", 9)), (("saw", 9), ("saw", 8))):
            stock = with_sort(2, (("x", *one, "a"), ("y", *other, "b")), STORE)
            self.assertFalse(Contents(stock, (), "a") == Contents(stock, (), "b"))

    def test_of_whatever_stock_and_time(self):
        stock = need_stock(((("axe", 1), ("saw", 9)), ("x",), (("p", "saw", 9, "x"), ("q", "axe", 10, "x"),
                           ("r", "saw", 9, "x")), (), (), (), (), ()))
        self.assertTrue(Contents(stock, (), "x") == Contents(STORE, (), "b", 3))
        self.assertTrue(Contents(stock, (), "x", 5) == Contents(STORE, LOST, "a", 0))
        self.assertFalse(Contents(stock, (), "x", 5) == Contents(STORE, LOST, "a", 1))

    def test_anything_else_is_unlike(self):
        contents = Contents(STORE, (), "c")
        for thing in odd_things() + [contents.rows(), str(contents), Equal, Life(STORE, (), "one")]:
            self.assertIs(contents.__eq__(thing), False)
        self.assertFalse(Contents(STORE, (), "a") == Contents(STORE, (), "a").rows())
        self.assertTrue(Contents(STORE, (), "a") != "axe 10, saw 9, saw 9")

    def test_it_stays_as_it_was_told(self):
        contents = Contents(STORE, (), "a")
        self.check_own(contents.rows)
        self.check_own(Contents(STORE, (), "c").rows)
        contents.rows().clear()
        self.assertEqual(len(contents), 3)
        self.assertEqual(str(contents), "axe 10, saw 9, saw 9")

    def test_rows_are_tuples(self):
        rows = Contents(STORE, (), "a").rows()
        self.assertIs(type(rows), list)
        for row in rows:
            self.assertIs(type(row), tuple)
            self.assertEqual([type(part) for part in row], [str, int, int])

    def test_refusals(self):
        self.check_stock_first(Contents, (HISTORY, "a", 5))
        self.check_history_second(Contents, ("a", 5))
        for other in ("rip", "axe", "zoe", "low"):
            self.check_name_third(Contents, other, None)
        self.check_time_last(Contents, ("a",))
        self.check_time_left_out(Contents, ("b",))
        self.assertEqual(len(Contents(STOCK, ((999, "lose", "rip", ""),), "a")), 2)
        self.assertEqual(len(Contents(STOCK, ((999, "lose", "rip", ""),), "a", 998)), 3)


class Alike(Refusing):

    def test_lists_of_all_that_hold_the_same(self):
        self.assertEqual(alike_boxes(STORE, ()), [["a", "b"], ["c", "d"], ["e"]])

    def test_boxes_with_nothing_in_them(self):
        stock = with_sort(2, (), STORE)
        self.assertEqual(alike_boxes(stock, ()), [["a", "c", "b", "e", "d"]])
        self.assertEqual(alike_boxes(LEAST_STOCK, ()), [])

    def test_each_unlike_all_others(self):
        self.assertEqual(alike_boxes(STOCK, ()), [["a"], ["b"], ["saw"]])

    def test_at_a_time(self):
        told = {0: [["a", "b"], ["c", "d"], ["e"]], 1: [["a"], ["c", "d"], ["b"], ["e"]],
                5: [["a"], ["c", "d"], ["b"], ["e"]], 8: [["a"], ["c", "d"], ["b"], ["e"]],
                9: [["a", "c", "d"], ["b"], ["e"]], 20: [["a", "d"], ["c"], ["b"], ["e"]]}
        for time, boxes in told.items():
            with self.subTest(time=time):
                self.assertEqual(alike_boxes(STORE, LOST, time), boxes)
                self.assertEqual(alike_boxes(STORE, LOST[::-1], time=time), boxes)

    def test_as_often_as_there_are_such(self):
        history = ((5, "lose", "one", ""),)
        self.assertEqual(alike_boxes(STORE, history), [["a"], ["c", "d"], ["b"], ["e"]])
        self.assertEqual(alike_boxes(STORE, history + ((6, "lose", "three", ""),)), [["a", "b"], ["c", "d"], ["e"]])
        self.assertEqual(alike_boxes(STORE, history + ((6, "lose", "hew", ""),)), [["a"], ["c", "d"], ["b"], ["e"]])

    def test_as_contents_tell(self):
        dice = random.Random(29)
        seen = set()
        for _ in range(200):
            tools = tuple((name, dice.choice(("saw", "axe")), dice.choice((5, 6)), dice.choice("abcd"))
                          for name in "pqrstu"[:dice.randrange(7)])
            stock = need_stock(((("saw", 2), ("axe", 0)), tuple("dbac"), tools, (), (), (), (), ()))
            told = alike_boxes(stock, ())
            self.assertEqual(sorted(sum(told, [])), list("abcd"))
            self.assertEqual([boxes[0] for boxes in told], [box for box in "dbac" if box in [row[0] for row in told]])
            for boxes in told:
                self.assertEqual(boxes, [box for box in "dbac"
                                         if Contents(stock, (), box) == Contents(stock, (), boxes[0])])
                for box in boxes:
                    held = [stock[2][[tool[0] for tool in tools].index(name)] for name in in_box(stock, (), box)]
                    self.assertEqual(Contents(stock, (), box).rows(), sorted({
                        (kind, size, sum(tool[1:3] == (kind, size) for tool in held)) for _, kind, size, _ in held}))
            seen.add(len(told))
        self.assertEqual(seen, {1, 2, 3, 4})

    def test_lists_are_the_askers_own(self):
        self.check_own(alike_boxes, STORE, ())
        told = alike_boxes(STORE, ())
        for boxes in told:
            self.assertIs(type(boxes), list)
            boxes.append("new")
        self.assertEqual(alike_boxes(STORE, ()), [["a", "b"], ["c", "d"], ["e"]])

    def test_refusals(self):
        self.check_stock_first(alike_boxes, (HISTORY, 5))
        self.check_history_second(alike_boxes, ())
        self.check_time_last(alike_boxes, ())
        self.check_time_left_out(alike_boxes, ())
        self.assertEqual(alike_boxes(STORE, ((999, "stone", "one", ""),)), [["a"], ["c", "d"], ["b"], ["e"]])
        self.assertEqual(alike_boxes(STORE, ((999, "stone", "one", ""),), 998), [["a", "b"], ["c", "d"], ["e"]])
        self.refused(BadHistory, alike_boxes, STOCK, UNHELD, None)
        self.refused(BadStock, alike_boxes, None, UNHELD, None)
