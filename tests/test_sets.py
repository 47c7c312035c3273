"""What sets lack, which are whole, which gauges stand in."""

import itertools
import random

from edgeshop.sets import is_whole_set, pieces_lacking, stand_ins
from edgeshop.stocks import need_stock
from tests.refusals import Refusing
from tests.samples import HISTORY, STOCK, odd_things, with_sort

ALL = (pieces_lacking, is_whole_set, stand_ins)

PIECES = ("one", "two", "three", "four", "five")


def shop(sizes, gauges, pieces=PIECES):
    """A stock with five tools of one kind, one of another, all pieces of one set, and with gauges (LOW, HIGH)."""
    return need_stock((
        (("k", 0), ("other", 0)), ("a",),
        tuple((name, "k", size, "a") for name, size in zip(PIECES, sizes)) + (("odd", "other", 5, "a"),),
        (("ann", "top"),), (("all", pieces),),
        tuple((name, "k", low, high) for name, (low, high) in zip("xyz", gauges)), (), ()))


def gone(*names):
    """A history by which these are lost."""
    return tuple((5, "lose", name, "") for name in names)


def best(stock, lacking, sizes):
    """The best of all ways there are, by [23] word by word; all pieces are of the kind of the gauges."""
    gauges = [gauge[0] for gauge in stock[5]]
    ranges = {name: (low, high) for name, _, low, high in stock[5]}
    ways = []
    for way in itertools.product(gauges + [""], repeat=len(lacking)):
        stood = [gauge for gauge in way if gauge]
        if len(set(stood)) < len(stood):
            continue
        if all(not gauge or ranges[gauge][0] <= sizes[piece] <= ranges[gauge][1] for piece, gauge in zip(lacking, way)):
            # A gauge told later is a greater one, none is the greatest.
            ways.append((-len(stood), [(gauges + [""]).index(gauge) for gauge in way], way))
    return list(zip(lacking, min(ways)[2]))


class Lacking(Refusing):

    def test_those_that_are_not_in_a_box(self):
        told = {0: [], 9: [], 10: [("rip", ("hand", "zoe"))], 20: [("rip", ("hand", "ann"))],
                29: [("rip", ("hand", "ann"))], 30: [("rip", ("stone",)), ("saw", ("hand", "a"))],
                40: [("saw", ("hand", "a"))], 50: [("rip", ("hand", "zoe")), ("saw", ("hand", "a"))],
                60: [("rip", ("lost",)), ("saw", ("hand", "a"))], 70: [("saw", ("hand", "a"))],
                998: [("saw", ("hand", "a"))], 999: [("saw", ("lost",))]}
        for time, lacking in told.items():
            with self.subTest(time=time):
                self.assertEqual(pieces_lacking(STOCK, HISTORY, "pair", time), lacking)
                self.assertIs(is_whole_set(STOCK, HISTORY, "pair", time), lacking == [])

    def test_a_set_of_one_piece(self):
        self.assertEqual(pieces_lacking(STOCK, HISTORY, "one", 9), [])
        self.assertEqual(pieces_lacking(STOCK, HISTORY, "one", 10), [("big", ("hand", "saw"))])
        self.assertEqual(pieces_lacking(STOCK, HISTORY, "one", 59), [("big", ("hand", "saw"))])
        # It is back in another box than its first one: a box is a box.
        self.assertEqual(pieces_lacking(STOCK, HISTORY, "one", 60), [])
        self.assertEqual([is_whole_set(STOCK, HISTORY, "one", time) for time in (0, 9, 10, 59, 60, 999)],
                         [True, True, False, False, True, True])

    def test_a_set_of_five_in_the_order_of_its_pieces(self):
        pieces = ("five", "one", "three", "two", "four")
        stock = shop((1, 2, 3, 4, 5), (), pieces)
        history = ((1, "lend", "one", "ann"), (1, "lose", "two", ""), (1, "stone", "five", ""), (2, "stone", "three", ""),
                   (2, "lend", "four", "ann"))
        self.assertEqual(pieces_lacking(stock, history, "all", 0), [])
        self.assertEqual(pieces_lacking(stock, history, "all", 1),
                         [("five", ("stone",)), ("one", ("hand", "ann")), ("two", ("lost",))])
        self.assertEqual([piece for piece, _ in pieces_lacking(stock, history, "all")], list(pieces))
        self.assertEqual(stand_ins(stock, history, "all"), [(piece, "") for piece in pieces])

    def test_without_events_all_sets_are_whole(self):
        for name in ("pair", "one"):
            self.assertIs(is_whole_set(STOCK, (), name), True)
            self.assertEqual(pieces_lacking(STOCK, (), name), [])
            self.assertEqual(stand_ins(STOCK, (), name), [])

    def test_an_event_of_time_0(self):
        self.assertEqual(pieces_lacking(STOCK, ((0, "lose", "rip", ""),), "pair", 0), [("rip", ("lost",))])

    def test_tools_that_are_no_pieces_do_not_count(self):
        history = ((1, "lose", "spare", ""), (1, "lose", "fine", ""), (1, "lose", "stone", ""))
        self.assertIs(is_whole_set(STOCK, history, "pair"), True)
        self.assertIs(is_whole_set(STOCK, history + ((1, "lose", "big", ""),), "pair"), True)
        self.assertIs(is_whole_set(STOCK, history + ((1, "lose", "big", ""),), "one"), False)

    def test_told_late_is_as_told_in_time(self):
        for time in (0, 10, 30, 60, 999):
            for ask in ALL:
                self.assertEqual(ask(STOCK, HISTORY[::-1], "pair", time), ask(STOCK, HISTORY, "pair", time))


class StandingIn(Refusing):

    def test_a_gauge_of_the_kind_and_of_the_size_then(self):
        # g is of the kind saw, for 3 to 9; saw is of the kind axe, for all.
        self.assertEqual(stand_ins(STOCK, HISTORY, "pair", 10), [("rip", "g")])
        self.assertEqual(stand_ins(STOCK, HISTORY, "pair", 30), [("rip", "g"), ("saw", "saw")])
        self.assertEqual(stand_ins(STOCK, HISTORY, "pair", 40), [("saw", "saw")])
        self.assertEqual(stand_ins(STOCK, HISTORY, "pair", 9), [])
        self.assertEqual(stand_ins(STOCK, HISTORY, "one", 20), [("big", "saw")])

    def test_the_size_is_from_low_to_high(self):
        for low, high, told in ((5, 5, "x"), (4, 6, "x"), (0, 4, ""), (6, 99, ""), (0, 5, "x"), (5, 99, "x")):
            stock = shop((5, 5, 5, 5, 5), ((low, high),))
            self.assertEqual(stand_ins(stock, gone("one"), "all"), [("one", told)])

    def test_the_size_then_counts(self):
        stock = shop((5, 5, 5, 5, 5), ((4, 4), (5, 5)))
        history = ((1, "stone", "one", ""), (2, "sharp", "one", "a"), (3, "lend", "one", "ann"), (4, "stone", "one", ""),
                   (5, "sharp", "one", "a"), (6, "lose", "one", ""))
        told = {1: [("one", "y")], 2: [], 3: [("one", "x")], 4: [("one", "x")], 5: [], 6: [("one", "")]}
        for time, pairs in told.items():
            self.assertEqual(stand_ins(stock, history, "all", time), pairs)

    def test_a_gauge_of_another_kind_does_not(self):
        stock = shop((5, 5, 5, 5, 5), ((0, 99),), PIECES[:4] + ("odd",))
        self.assertEqual(stand_ins(stock, gone("odd"), "all"), [("odd", "")])
        self.assertEqual(stand_ins(stock, gone("odd", "four"), "all"), [("four", "x"), ("odd", "")])
        stock = with_sort(5, (("x", "other", 0, 99),), stock)
        self.assertEqual(stand_ins(stock, gone("odd", "four"), "all"), [("four", ""), ("odd", "x")])

    def test_no_gauge_twice(self):
        stock = shop((5, 5, 5, 5, 5), ((0, 99),))
        self.assertEqual(stand_ins(stock, gone("one", "two", "three"), "all"), [("one", "x"), ("two", ""), ("three", "")])

    def test_without_gauges_none_stands_in(self):
        self.assertEqual(stand_ins(shop((5, 5, 5, 5, 5), ()), gone("two", "four"), "all"), [("two", ""), ("four", "")])

    def test_more_pieces_than_gauges(self):
        stock = shop((5, 5, 5, 5, 5), ((0, 99), (0, 99), (0, 99)))
        self.assertEqual(stand_ins(stock, gone(*PIECES), "all"),
                         [("one", "x"), ("two", "y"), ("three", "z"), ("four", ""), ("five", "")])

    def test_more_gauges_than_pieces(self):
        stock = shop((5, 5, 5, 5, 5), ((0, 99), (0, 99), (0, 99)))
        self.assertEqual(stand_ins(stock, gone("four"), "all"), [("four", "x")])
        self.assertEqual(stand_ins(stock, gone("two", "five"), "all"), [("two", "x"), ("five", "y")])

    def test_as_many_as_can_be(self):
        # x fits both, y only the first: with x for the first piece none would be left for the second.
        stock = shop((5, 9, 5, 5, 5), ((0, 99), (5, 5)))
        self.assertEqual(stand_ins(stock, gone("one", "two"), "all"), [("one", "y"), ("two", "x")])
        self.assertEqual(stand_ins(stock, gone("one"), "all"), [("one", "x")])
        # A chain of three: x fits all, y the first two, z the first only.
        stock = shop((5, 7, 9, 5, 5), ((5, 9), (5, 7), (5, 5)))
        self.assertEqual(stand_ins(stock, gone("one", "two", "three"), "all"), [("one", "z"), ("two", "y"), ("three", "x")])
        self.assertEqual(stand_ins(stock, gone("one", "three"), "all"), [("one", "y"), ("three", "x")])
        self.assertEqual(stand_ins(stock, gone("one", "two"), "all"), [("one", "x"), ("two", "y")])

    def test_the_first_piece_has_one_rather_than_none(self):
        # One gauge for each of three: the first has it, whatever fits the others.
        stock = shop((5, 5, 9, 9, 5), ((0, 99),))
        self.assertEqual(stand_ins(stock, gone("two", "three", "four"), "all"), [("two", "x"), ("three", ""), ("four", "")])
        # Two of three can have one; the first can have none at all.
        stock = shop((1, 5, 5, 5, 9), ((4, 6), (5, 5)))
        self.assertEqual(stand_ins(stock, gone("one", "two", "three", "four", "five"), "all"),
                         [("one", ""), ("two", "x"), ("three", "y"), ("four", ""), ("five", "")])

    def test_a_gauge_told_late_is_better_than_none(self):
        stock = shop((9, 5, 5, 5, 5), ((5, 5), (6, 6), (9, 9)))
        self.assertEqual(stand_ins(stock, gone("one", "two", "three"), "all"), [("one", "z"), ("two", "x"), ("three", "")])

    def test_the_gauge_told_first_is_had_first(self):
        stock = shop((5, 5, 5, 5, 5), ((6, 9), (5, 9), (0, 5)))
        self.assertEqual(stand_ins(stock, gone("one"), "all"), [("one", "y")])
        self.assertEqual(stand_ins(stock, gone("one", "two"), "all"), [("one", "y"), ("two", "z")])

    def test_the_order_of_the_pieces_counts(self):
        for pieces in itertools.permutations(PIECES[:3]):
            stock = shop((5, 5, 5, 5, 5), ((0, 99), (5, 5)), pieces)
            self.assertEqual(stand_ins(stock, gone("three", "one", "two"), "all"),
                             [(pieces[0], "x"), (pieces[1], "y"), (pieces[2], "")])

    def test_each_set_by_itself(self):
        stock = with_sort(4, (("s", ("one",)), ("t", ("two",))), shop((5, 5, 5, 5, 5), ((0, 99),)))
        self.assertEqual(stand_ins(stock, gone("one", "two"), "s"), [("one", "x")])
        self.assertEqual(stand_ins(stock, gone("one", "two"), "t"), [("two", "x")])

    def test_as_the_best_of_all_ways(self):
        dice = random.Random(5)
        fewer = 0
        for _ in range(400):
            sizes = [dice.randrange(5) for _ in PIECES]
            gauges = [sorted((dice.randrange(5), dice.randrange(5))) for _ in range(dice.randrange(4))]
            pieces = tuple(dice.sample(PIECES, dice.randint(1, 5)))
            stock = shop(sizes, gauges, pieces)
            lost = [piece for piece in pieces if dice.random() < 0.8]
            told = best(stock, lost, dict(zip(PIECES, sizes)))
            self.assertEqual(stand_ins(stock, gone(*lost), "all"), told)
            fewer += any(not gauge for _, gauge in told)
        self.assertTrue(100 < fewer < 380, fewer)


class Told(Refusing):

    def test_kinds_of_what_is_told(self):
        for ask, second in ((pieces_lacking, tuple), (stand_ins, str)):
            told = ask(STOCK, HISTORY, "pair", 30)
            self.assertIs(type(told), list)
            self.assertEqual([[type(part) for part in pair] for pair in told], [[str, second]] * 2)
            self.assertEqual([type(pair) for pair in told], [tuple] * 2)

    def test_what_is_told_is_the_askers_own(self):
        for ask in (pieces_lacking, stand_ins):
            self.check_own(ask, STOCK, HISTORY, "pair", 30)
            self.check_own(ask, STOCK, HISTORY, "pair", 0)

    def test_the_time_left_out_is_999(self):
        for ask in ALL:
            self.check_time_left_out(ask, ("pair",))
        self.assertEqual(pieces_lacking(STOCK, HISTORY, "pair"), [("saw", ("lost",))])
        self.assertIs(is_whole_set(STOCK, HISTORY, "pair"), False)
        self.assertEqual(stand_ins(STOCK, HISTORY, "pair"), [("saw", "saw")])
        history = ((999, "lose", "rip", ""),)
        self.assertEqual(pieces_lacking(STOCK, history, "pair"), [("rip", ("lost",))])
        self.assertIs(is_whole_set(STOCK, history, "pair"), False)
        self.assertEqual(stand_ins(STOCK, history, "pair"), [("rip", "g")])
        for ask, told in ((pieces_lacking, []), (is_whole_set, True), (stand_ins, [])):
            self.assertEqual(ask(STOCK, history, "pair", 998), told)


class Refusals(Refusing):

    def test_a_stock_a_history_a_set_a_time(self):
        for ask in ALL:
            self.check_stock_first(ask, (HISTORY, "pair", 5))
            self.check_history_second(ask, ("pair", 5))
            for other in ("rip", "saw", "a", "g", "cut", "zoe"):
                self.check_name_third(ask, other, None)
            self.check_time_last(ask, ("pair",))

    def test_a_name_of_any_kind_is_not_changed(self):
        name = {"pair": [1]}
        for ask in ALL:
            self.check_no_such(name, ask, STOCK, (), name)
        self.assertEqual(name, {"pair": [1]})

    def test_without_sets_no_name_is_there(self):
        stock = with_sort(4, ())
        for ask in ALL:
            for thing in ["pair"] + odd_things():
                self.check_no_such(thing, ask, stock, (), thing, None)
