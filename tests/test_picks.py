"""Which tool to take for a work, and for rows of works."""

import random

from edgeshop.errors import BadHistory, BadQuestion, BadStock, NoneServes
from edgeshop.events import holds, serves, size_of, state_of
from edgeshop.picks import choice, pick, picks
from edgeshop.stocks import need_stock
from tests.refusals import UNHELD, Refusing
from tests.samples import HISTORY, STOCK, odd_things, some_history, with_sort

# Six saws for one work, told in an order in which none of them would go.
STORE = need_stock((
    (("saw", 2), ("axe", 0)),
    ("a", "b"),
    (("used", "saw", 9, "a"), ("small", "saw", 5, "a"), ("like", "saw", 6, "b"), ("big", "saw", 8, "b"),
     ("same", "saw", 6, "a"), ("chip", "axe", 7, "a"), ("last", "saw", 7, "b")),
    (("ann", "top"), ("zoe", "low")),
    (("s", ("big", "small")), ("t", ("like",))),
    (),
    (("cut", "saw", 0, 99), ("mid", "saw", 6, 7), ("chop", "axe", 0, 99), ("none", "axe", 50, 60)),
    (("last", "mid"),),
))

# used is sharpened twice, big once; the others never.
WORN = (
    (1, "stone", "used", ""), (2, "sharp", "used", "a"), (3, "stone", "used", ""), (4, "sharp", "used", "a"),
    (1, "stone", "big", ""), (2, "sharp", "big", "b"),
)


def by_the_words(history, work, time, box=None, hand=None, spare=False):
    """A CHOICE of the sample stock, worked out by what events.py tells."""
    whole = [pieces for _, pieces in STOCK[4]
             if all(state_of(STOCK, history, piece, time)[0] == "box" for piece in pieces)]
    rows = []
    for number, (name, _, size, _) in enumerate(STOCK[2]):
        state = state_of(STOCK, history, name, time)
        free = state[0] == "box" and (box is None or state == ("box", box))
        if not serves(STOCK, history, name, work, time) or not (free or state == ("hand", hand)):
            continue
        if not spare or not any(name in pieces for pieces in whole):
            then = size_of(STOCK, history, name, time)
            rows.append((size - then, -then, number, name))
    return [row[3] for row in sorted(rows)]


class Choice(Refusing):

    def test_the_one_sharpened_less_often_goes_first_then_the_greater_one_then_the_one_told_first(self):
        self.assertEqual(choice(STORE, (), "cut"), ["used", "big", "like", "same", "small"])
        self.assertEqual(choice(STORE, WORN, "cut"), ["like", "same", "small", "big", "used"])
        self.assertEqual(choice(STORE, WORN, "cut", 0), ["used", "big", "like", "same", "small"])
        # From 1 to 1 both are at the stone, from 3 to 3 used alone.
        self.assertEqual(choice(STORE, WORN, "cut", 1), ["like", "same", "small"])
        self.assertEqual(choice(STORE, WORN, "cut", 2), ["like", "same", "small", "used", "big"])
        self.assertEqual(choice(STORE, WORN, "cut", 3), ["like", "same", "small", "big"])

    def test_of_the_same_sharpenings_and_size_the_one_told_first(self):
        like, same = STORE[2][2], STORE[2][4]
        tools = STORE[2][:2] + (same, STORE[2][3], like) + STORE[2][5:]
        self.assertEqual(choice(with_sort(2, tools, STORE), (), "cut")[2:4], ["same", "like"])

    def test_sharpenings_count_not_sizes_alone(self):
        # used is of the size 7 in the end, more than all others, and goes last.
        self.assertEqual(size_of(STORE, WORN, "used"), 7)
        self.assertEqual(choice(STORE, WORN, "cut")[-1], "used")
        self.assertEqual(pick(STORE, WORN, "cut"), "like")

    def test_the_size_then_counts(self):
        # small is sharpened once, big twice: both then of other sizes than at first.
        history = ((1, "stone", "big", ""), (2, "sharp", "big", "b"), (1, "stone", "used", ""), (2, "sharp", "used", "b"),
                   (3, "stone", "small", ""), (4, "sharp", "small", "b"))
        self.assertEqual(choice(STORE, history, "cut"), ["like", "same", "used", "big", "small"])
        self.assertEqual(choice(STORE, history, "mid", 0), ["last", "like", "same"])
        self.assertEqual(choice(STORE, history, "mid"), ["last", "like", "same", "big"])

    def test_all_of_them_serve_the_work(self):
        self.assertEqual(choice(STORE, (), "chop"), ["chip"])
        self.assertEqual(choice(STORE, (), "none"), [])
        self.assertEqual(choice(STORE, (), "mid"), ["last", "like", "same"])
        self.assertEqual(choice(STOCK, (), "cut"), ["rip", "spare"])
        self.assertEqual(choice(STOCK, (), "trim"), [])

    def test_a_kept_tool_is_for_its_work_alone(self):
        self.assertNotIn("last", choice(STORE, (), "cut"))
        self.assertIn("last", choice(with_sort(7, (), STORE), (), "cut"))
        self.assertEqual(choice(with_sort(7, (), STORE), (), "cut")[2], "last")

    def test_only_free_ones(self):
        for event in ((5, "lend", "like", "ann"), (5, "stone", "like", ""), (5, "lose", "like", "")):
            self.assertEqual(choice(STORE, (event,), "mid", 4), ["last", "like", "same"])
            self.assertEqual(choice(STORE, (event,), "mid", 5), ["last", "same"])
            self.assertEqual(choice(STORE, (event,), "mid"), ["last", "same"])
        history = ((5, "lend", "like", "ann"), (7, "back", "like", "a"))
        self.assertEqual([choice(STORE, history, "mid", time) for time in (6, 7)],
                         [["last", "same"], ["last", "like", "same"]])
        history = ((0, "lose", "like", ""), (999, "find", "like", "a"))
        self.assertEqual([choice(STORE, history, "mid", time) for time in (0, 998, 999)],
                         [["last", "same"], ["last", "same"], ["last", "like", "same"]])

    def test_told_late_is_as_told_in_time(self):
        for time in (0, 1, 2, 3, 999):
            self.assertEqual(choice(STORE, WORN[::-1], "cut", time), choice(STORE, WORN, "cut", time))


class Wishes(Refusing):

    def test_of_one_box_alone(self):
        self.assertEqual(choice(STORE, (), "cut", box="a"), ["used", "same", "small"])
        self.assertEqual(choice(STORE, (), "cut", box="b"), ["big", "like"])
        self.assertEqual(choice(STORE, (), "chop", box="b"), [])
        # The box in which it is then, not its first one.
        history = ((5, "lend", "big", "ann"), (6, "back", "big", "a"))
        self.assertEqual([choice(STORE, history, "cut", time, "a") for time in (4, 5, 6)],
                         [["used", "same", "small"], ["used", "same", "small"], ["used", "big", "same", "small"]])
        self.assertEqual([choice(STORE, history, "cut", time, "b") for time in (4, 5, 6)],
                         [["big", "like"], ["like"], ["like"]])

    def test_those_with_a_hand_too(self):
        history = ((5, "lend", "big", "ann"), (5, "lend", "like", "zoe"), (6, "lose", "like", ""))
        self.assertEqual(choice(STORE, history, "cut", 5), ["used", "same", "small"])
        self.assertEqual(choice(STORE, history, "cut", 5, hand="ann"), ["used", "big", "same", "small"])
        self.assertEqual(choice(STORE, history, "cut", 5, hand="zoe"), ["used", "like", "same", "small"])
        self.assertEqual(choice(STORE, history, "cut", 4, hand="zoe"), ["used", "big", "like", "same", "small"])
        # A lost one and one at the stone are with no hand.
        self.assertEqual(choice(STORE, history, "cut", 6, hand="zoe"), ["used", "same", "small"])
        self.assertEqual(choice(STORE, ((5, "lend", "big", "ann"), (6, "stone", "big", "")), "cut", hand="ann"),
                         ["used", "like", "same", "small"])

    def test_those_with_a_hand_are_to_serve_the_work_as_well(self):
        history = ((5, "lend", "chip", "ann"), (5, "lend", "small", "ann"), (5, "lend", "last", "ann"))
        self.assertEqual(choice(STORE, history, "cut", hand="ann"), ["used", "big", "like", "same", "small"])
        self.assertEqual(choice(STORE, history, "mid", hand="ann"), ["last", "like", "same"])
        self.assertEqual(choice(STORE, history, "mid"), ["like", "same"])
        self.assertEqual(choice(STORE, history, "chop", hand="ann"), ["chip"])
        self.assertEqual(choice(STORE, history, "chop", hand="zoe"), [])

    def test_a_passed_one_is_with_the_other_hand(self):
        history = ((5, "lend", "big", "ann"), (7, "pass", "big", "zoe"))
        told = [["big" in choice(STORE, history, "cut", time, hand=hand) for time in (4, 5, 6, 7)]
                for hand in (None, "ann", "zoe")]
        self.assertEqual(told, [[True, False, False, False], [True, True, True, False], [True, False, False, True]])

    def test_a_box_and_a_hand_of_one_name(self):
        # In the sample stock "a" and "saw" are hands and boxes.
        history = ((5, "lend", "spare", "a"),)
        self.assertEqual(choice(STOCK, history, "cut", box="a"), ["rip"])
        self.assertEqual(choice(STOCK, history, "cut", box="b"), [])
        self.assertEqual(choice(STOCK, history, "cut", hand="a"), ["rip", "spare"])
        self.assertEqual(choice(STOCK, history, "cut", hand="saw"), ["rip"])
        self.assertEqual(choice(STOCK, (), "cut", hand="a"), ["rip", "spare"])
        self.assertEqual(choice(STOCK, (), "cut", box="saw"), [])

    def test_sparing_whole_sets(self):
        self.assertEqual(choice(STORE, (), "cut", spare=True), ["used", "same"])
        self.assertEqual(choice(STORE, (), "cut", spare=False), ["used", "big", "like", "same", "small"])
        # The set s isn't whole any more: what is left of it isn't spared.
        history = ((5, "lend", "big", "ann"),)
        self.assertEqual(choice(STORE, history, "cut", 4, spare=True), ["used", "same"])
        self.assertEqual(choice(STORE, history, "cut", 5, spare=True), ["used", "same", "small"])
        for event in ((5, "stone", "big", ""), (5, "lose", "big", "")):
            self.assertEqual(choice(STORE, (event,), "cut", spare=True), ["used", "same", "small"])
        history += ((7, "back", "big", "a"),)
        self.assertEqual(choice(STORE, history, "cut", 7, spare=True), ["used", "same"])

    def test_all_wishes_together(self):
        history = ((5, "lend", "big", "ann"), (5, "lend", "used", "zoe"))
        self.assertEqual(choice(STORE, history, "cut", 5, "a", "ann"), ["big", "same", "small"])
        self.assertEqual(choice(STORE, history, "cut", 5, "b", "ann"), ["big", "like"])
        self.assertEqual(choice(STORE, history, "cut", 5, "b", "ann", True), ["big"])
        self.assertEqual(choice(STORE, history, "cut", 5, "b", "zoe", True), ["used"])
        self.assertEqual(choice(STORE, history, "cut", 5, "b", None, True), [])
        self.assertEqual(choice(STORE, history, "cut", 5, "a", None, True), ["same", "small"])
        self.assertEqual(choice(STORE, history, "cut", 5, None, "zoe", True), ["used", "same", "small"])
        self.assertEqual(choice(STORE, history, "cut", 4, "a", "ann", True), ["used", "same"])
        self.assertEqual(choice(STORE, history, "cut", spare=True, hand="ann", box="b", time=5), ["big"])

    def test_as_by_the_words(self):
        dice = random.Random(9)
        asked = 0
        while asked < 60:
            history = some_history(dice)
            if not holds(STOCK, history):
                continue
            asked += 1
            time = dice.randrange(10)
            for work in ("cut", "chop", "split"):
                for box in (None, "a", "b"):
                    for hand in (None, "ann", "saw"):
                        for spare in (False, True):
                            wishes = (history, work, time, box, hand, spare)
                            self.assertEqual(choice(STOCK, *wishes), by_the_words(*wishes))


class Pick(Refusing):

    def test_the_first_of_the_choice(self):
        history = ((5, "lend", "big", "ann"), (5, "lend", "used", "zoe"))
        self.assertEqual(pick(STORE, (), "cut"), "used")
        self.assertEqual(pick(STORE, history, "cut"), "like")
        self.assertEqual(pick(STORE, history, "cut", 4), "used")
        self.assertEqual(pick(STORE, history, "cut", 5, "a"), "same")
        self.assertEqual(pick(STORE, history, "cut", 5, None, "ann"), "big")
        self.assertEqual(pick(STORE, history, "cut", 5, None, None, True), "same")
        self.assertEqual(pick(STORE, history, "cut", 5, "b", "ann", True), "big")
        self.assertEqual(pick(STORE, history, "cut", spare=True, hand="zoe", box="b", time=5), "used")

    def test_of_none_the_work_is_told(self):
        lent = ((5, "lend", "chip", "ann"),)
        for handed, named in ((((), "none"), {}), ((lent, "chop"), {}), ((lent, "chop", 5), {}),
                              (((), "chop", 5, "b"), {}), ((lent, "chop"), {"hand": "zoe"}),
                              (((), "cut"), {"box": "b", "spare": True})):
            with self.subTest(handed=handed):
                self.assertEqual(self.refused(NoneServes, pick, STORE, *handed, **named).work, handed[1])
                self.assertEqual(choice(STORE, *handed, **named), [])
        self.assertEqual(pick(STORE, lent, "chop", 4), "chip")
        self.assertEqual(pick(STORE, lent, "chop", hand="ann"), "chip")


class Picks(Refusing):

    def test_one_behind_the_other(self):
        self.assertEqual(picks(STORE, (), ("cut", "mid", "chop")), ["used", "last", "chip"])
        self.assertEqual(picks(STORE, (), ("mid", "mid", "mid")), ["last", "like", "same"])
        self.assertEqual(picks(STORE, WORN, ("cut", "mid", "mid")), ["like", "last", "same"])
        self.assertEqual(picks(STORE, WORN, ("mid", "mid", "cut")), ["last", "like", "same"])
        self.assertEqual(picks(STORE, (), ("cut",)), [pick(STORE, (), "cut")])

    def test_each_takes_its_pick_whatever_is_left_for_those_behind_it(self):
        self.assertEqual(picks(STORE, WORN, ("cut", "cut", "mid")), ["like", "same", "last"])
        history = ((5, "lose", "last", ""), (5, "lose", "same", ""), (5, "lose", "used", ""), (5, "lose", "big", ""))
        self.assertEqual(picks(STORE, history, ("mid", "cut")), ["like", "small"])
        self.assertEqual(self.refused(NoneServes, picks, STORE, history, ("cut", "mid")).work, "mid")

    def test_rows_of_none_and_of_eight(self):
        self.assertEqual(picks(STORE, (), ()), [])
        works = ("cut", "mid", "chop") + ("cut",) * 4
        self.assertEqual(picks(STORE, (), works), ["used", "last", "chip", "big", "like", "same", "small"])
        tools = STORE[2] + (("more", "axe", 1, "b"),)
        self.assertEqual(picks(with_sort(2, tools, STORE), (), works + ("chop",)),
                         ["used", "last", "chip", "big", "like", "same", "small", "more"])
        self.assertEqual(self.refused(NoneServes, picks, STORE, (), works + ("chop",)).work, "chop")

    def test_a_work_that_none_is_left_for(self):
        self.assertEqual(self.refused(NoneServes, picks, STORE, (), ("chop", "chop", "none")).work, "chop")
        self.assertEqual(self.refused(NoneServes, picks, STORE, (), ("cut", "none", "chop", "chop")).work, "none")
        self.assertEqual(self.refused(NoneServes, picks, STORE, (), ("mid",) * 4).work, "mid")

    def test_at_one_time_of_free_ones(self):
        history = ((5, "lend", "used", "ann"), (6, "stone", "big", ""), (7, "lose", "like", ""))
        told = {4: ["used", "big"], 5: ["big", "like"], 6: ["like", "same"], 7: ["same", "small"]}
        for time, names in told.items():
            self.assertEqual(picks(STORE, history, ("cut", "cut"), time), names)
        self.assertEqual(picks(STORE, history, ("cut", "cut")), ["same", "small"])
        self.assertEqual(picks(STORE, history, ("cut",), time=5), ["big"])

    def test_works_are_not_changed(self):
        works = ("cut", "mid")
        picks(STORE, (), works)
        self.assertEqual(works, ("cut", "mid"))
        wrong = ["cut"]
        self.refused(BadQuestion, picks, STORE, (), wrong)
        self.assertEqual(wrong, ["cut"])


class Told(Refusing):

    def test_what_is_told_is_the_askers_own(self):
        self.check_own(choice, STORE, WORN, "cut")
        self.check_own(choice, STORE, WORN, "cut", box="a", hand="ann", spare=True)
        self.check_own(choice, STORE, WORN, "none")
        self.check_own(picks, STORE, WORN, ("cut", "mid"))
        self.check_own(picks, STORE, WORN, ())

    def test_the_time_left_out_is_999(self):
        self.check_time_left_out(choice, ("chop",))
        self.check_time_left_out(pick, ("saw",))
        self.check_time_left_out(picks, (("saw",),))
        self.assertEqual(choice(STOCK, ((999, "lose", "rip", ""),), "cut"), ["spare"])
        self.assertEqual(pick(STOCK, ((999, "lose", "rip", ""),), "cut"), "spare")
        self.assertEqual(pick(STOCK, ((999, "lose", "rip", ""),), "cut", 998), "rip")
        self.assertEqual(picks(STOCK, ((999, "lose", "rip", ""),), ("cut",)), ["spare"])
        self.assertEqual(picks(STOCK, ((999, "lose", "rip", ""),), ("cut",), 998), ["rip"])


class Refusals(Refusing):

    def test_a_stock_first(self):
        for ask in (choice, pick):
            self.check_stock_first(ask, (HISTORY, "cut", 5, "a", "ann", True))
        self.check_stock_first(picks, (HISTORY, ("cut",), 5))

    def test_a_history_second(self):
        for ask in (choice, pick):
            self.check_history_second(ask, ("cut", 5, "a", "ann", True))
            self.refused(BadHistory, ask, STOCK, UNHELD, None, None, 1, 1, None)
        self.check_history_second(picks, (("cut",), 5))

    def test_then_the_work(self):
        for ask in (choice, pick):
            for other in ("rip", "axe", "zoe", "b"):
                self.check_name_third(ask, other, None, 1, 1, None)

    def test_then_the_box_then_the_hand(self):
        for ask in (choice, pick):
            for at, thing in enumerate(["zoe", "rip", "low"] + odd_things()):
                if thing is not None:
                    with self.subTest(ask=ask, at=at):
                        self.check_no_such(thing, ask, STOCK, (), "cut", 5, thing)
                        self.check_no_such(thing, ask, STOCK, (), "cut", None, thing, "nobody", None)
                        self.check_no_such(thing, ask, STOCK, (), "cut", box=thing, hand=1, spare=1, time=-1)
            for at, thing in enumerate(["b", "rip", "low"] + odd_things()):
                if thing is not None:
                    with self.subTest(ask=ask, at=at):
                        self.check_no_such(thing, ask, STOCK, (), "cut", 5, None, thing)
                        self.check_no_such(thing, ask, STOCK, (), "cut", None, "a", thing, None)
                        self.check_no_such(thing, ask, STOCK, (), "cut", hand=thing, spare=1, time=-1)

    def test_then_the_time_and_what_is_no_truth(self):
        for ask in (choice, pick):
            self.check_time_last(ask, ("cut",))
            for at, thing in enumerate(odd_things() + [0, 1, "True"]):
                if type(thing) is not bool:
                    with self.subTest(ask=ask, at=at):
                        self.refused(BadQuestion, ask, STOCK, (), "cut", 5, None, None, thing)
                        self.refused(BadQuestion, ask, STOCK, (), "cut", spare=thing)
                        self.refused(BadQuestion, ask, STOCK, (), "cut", 5, "a", "ann", thing)

    def test_last_that_none_serves(self):
        self.refused(BadQuestion, pick, STOCK, (), "trim", 1000)
        self.refused(BadQuestion, pick, STOCK, (), "trim", spare=None)
        self.check_no_such("zoe", pick, STOCK, (), "trim", 5, "zoe")
        self.check_no_such("b", pick, STOCK, (), "trim", 5, None, "b")
        self.assertEqual(self.refused(NoneServes, pick, STOCK, (), "trim").work, "trim")

    def test_what_is_no_tuple_of_works(self):
        # Behind the history and ahead of names and of the TIME.
        for at, thing in enumerate(odd_things()):
            if type(thing) is not tuple:
                with self.subTest(at=at):
                    self.refused(BadQuestion, picks, STOCK, HISTORY, thing)
                    self.refused(BadQuestion, picks, STOCK, HISTORY, thing, None)
                    self.refused(BadHistory, picks, STOCK, UNHELD, thing)
                    self.refused(BadStock, picks, None, UNHELD, thing)
        self.refused(BadQuestion, picks, STOCK, HISTORY, ["cut"])
        self.refused(BadQuestion, picks, STOCK, HISTORY, "cut")
        self.refused(BadQuestion, picks, STOCK, HISTORY, ("cut",) * 9)
        self.refused(BadQuestion, picks, STOCK, HISTORY, ("nobody",) * 9)
        self.assertEqual(self.refused(NoneServes, picks, STOCK, HISTORY, ("cut",) * 8).work, "cut")

    def test_then_the_first_name_that_is_not_there(self):
        for at, thing in enumerate(["rip", "axe", "zoe"] + odd_things()):
            for works in ((thing,), ("cut", thing, "nobody"), ("trim", thing), ("cut",) * 7 + (thing,), (thing,) * 8):
                with self.subTest(at=at, many=len(works)):
                    self.check_no_such(thing, picks, STOCK, HISTORY, works)
                    self.check_no_such(thing, picks, STOCK, HISTORY, works, None)

    def test_then_the_time_then_that_none_serves(self):
        self.check_time_last(picks, (("cut",),))
        self.check_time_last(picks, ((),))
        self.check_time_last(picks, (("trim",),))
        self.assertEqual(self.refused(NoneServes, picks, STOCK, HISTORY, ("cut", "trim")).work, "trim")
