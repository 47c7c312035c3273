"""A shop: its deeds and their news, what is undone, which shops are equal."""

import itertools
import random

from edgeshop.errors import BadDeed, BadHistory, BadQuestion, BadStock, NoEvent, NoneServes, NoSuch
from edgeshop.events import holds, size_of, state_of
from edgeshop.eventtexts import history_text
from edgeshop.found import can_be
from edgeshop.lives import Life
from edgeshop.picks import pick
from edgeshop.sets import pieces_lacking
from edgeshop.shop import Shop
from tests.refusals import Refusing
from tests.samples import BOXES, HANDS, HISTORY, LEAST_STOCK, STOCK, TOOLS
from tests.samples import Equal, changed, deep, gone_through, odd_things, some_history, with_sort

# Two saws of one size in one box.
TWINS = with_sort(2, TOOLS + (("twin", "saw", 7, "a"),))

LENT = (10, "lend", "rip", "ann")
BACK = (20, "back", "rip", "b")


def shop_of(history, stock=STOCK):
    """A shop that is told these events, in an order in which each of them can stand."""
    shop = Shop(stock)
    for event in sorted(history):
        shop.tell(event)
    return shop


def lent_and_back(many):
    """So many events of one tool, TIME by TIME."""
    return tuple((time, ("lend", "back")[time % 2], "rip", ("ann", "b")[time % 2]) for time in range(many))


def naive_news(before, after):
    """The NEWS, each TIME for itself; all events are of TIMEs below 9."""
    times = {name: [] for name, _, _, _ in TOOLS}
    for time in range(10):
        _, was, sizes = gone_through(tuple(event for event in before if event[0] <= time))
        _, now, others = gone_through(tuple(event for event in after if event[0] <= time))
        for name, rows in times.items():
            if (was[name], sizes[name]) != (now[name], others[name]):
                rows.append(time)
    return [(name, rows[0], 999 if rows[-1] == 9 else rows[-1]) for name, rows in times.items() if rows]


class Standing(Refusing):
    """What is looked at behind each deed."""

    def stands(self, shop, history, many=None):
        self.assertEqual(shop.history(), history)
        self.assertEqual(len(shop), len(history))
        if many is not None:
            self.assertEqual(shop.many(), many)

    def left_alone(self, shop, error, deed):
        """That a deed is refused and changes nothing."""
        history, many, text = shop.history(), shop.many(), str(shop)
        made = self.refused(error, shop.do, deed)
        self.stands(shop, history, many)
        self.assertEqual(str(shop), text)
        return made


class AtFirst(Standing):

    def test_a_shop_without_events(self):
        shop = Shop(STOCK)
        self.stands(shop, (), 0)
        self.assertEqual(shop.stock(), STOCK)
        self.assertEqual(shop.in_time(), ())
        self.assertEqual(str(shop), "")
        self.assertEqual(len(Shop(LEAST_STOCK)), 0)

    def test_what_is_no_stock(self):
        for at, thing in enumerate(odd_things()):
            with self.subTest(at=at):
                self.assertEqual(self.refused(BadStock, Shop, thing).place, ("form",))
        self.assertEqual(self.refused(BadStock, Shop, with_sort(7, (("rip", "cut"), deep()))).place, ("keep", 1))


class Tell(Standing):

    def test_it_comes_behind_all_others(self):
        shop = Shop(STOCK)
        self.assertEqual(shop.tell(BACK[:1] + ("lend", "big", "zoe")), [("big", 20, 999)])
        self.assertEqual(shop.do(("tell", LENT)), [("rip", 10, 999)])
        self.stands(shop, ((20, "lend", "big", "zoe"), LENT), 2)

    def test_news_of_each_word(self):
        shop = Shop(STOCK)
        for event, news in (((10, "lend", "rip", "ann"), ("rip", 10, 999)),
                            ((20, "pass", "rip", "zoe"), ("rip", 20, 999)),
                            ((30, "back", "rip", "b"), ("rip", 30, 999)), ((40, "stone", "rip", ""), ("rip", 40, 999)),
                            ((50, "sharp", "rip", "b"), ("rip", 50, 999)), ((60, "lose", "rip", ""), ("rip", 60, 999)),
                            ((999, "find", "rip", "a"), ("rip", 999, 999)), ((0, "stone", "saw", ""), ("saw", 0, 999))):
            self.assertEqual(shop.tell(event), [news])

    def test_told_late_between_others_of_the_tool(self):
        shop = shop_of((LENT, BACK))
        # Passed on from 15 to 19, it is back at 20 all the same.
        self.assertEqual(shop.tell((15, "pass", "rip", "zoe")), [("rip", 15, 19)])
        self.assertEqual(shop.tell((19, "pass", "rip", "saw")), [("rip", 19, 19)])
        self.assertEqual(shop.tell((0, "lend", "saw", "ann")), [("saw", 0, 999)])
        self.stands(shop, (LENT, BACK, (15, "pass", "rip", "zoe"), (19, "pass", "rip", "saw"),
                           (0, "lend", "saw", "ann")), 5)
        self.assertEqual(shop.state_of("rip", 14), ("hand", "ann"))
        self.assertEqual(shop.state_of("rip", 15), ("hand", "zoe"))
        self.assertEqual(shop.state_of("rip", 20), ("box", "b"))

    def test_otherwise_again_behind_a_while(self):
        # It is passed to ann at 30 as ever: only from 20 to 29 another hand has it.
        shop = shop_of(((10, "lend", "rip", "zoe"), (30, "pass", "rip", "ann")))
        self.assertEqual(shop.tell((20, "pass", "rip", "saw")), [("rip", 20, 29)])
        shop = shop_of(((10, "lend", "rip", "zoe"), (30, "pass", "rip", "ann"), (40, "back", "rip", "a")))
        self.assertEqual(shop.take(1), [("rip", 30, 39)])

    def test_told_ahead_of_others(self):
        shop = Shop(STOCK)
        shop.tell(BACK[:1] + ("stone", "rip", ""))
        self.assertEqual(shop.tell(LENT), [("rip", 10, 19)])
        self.assertEqual(shop.tell((0, "stone", "big", "")), [("big", 0, 999)])
        self.assertEqual(shop.tell((5, "sharp", "big", "a")), [("big", 5, 999)])
        self.assertEqual(shop.size_of("big"), 98)

    def test_at_time_0_and_999(self):
        shop = Shop(STOCK)
        self.assertEqual(shop.tell((999, "lose", "rip", "")), [("rip", 999, 999)])
        self.assertEqual(shop.tell((0, "lend", "rip", "ann")), [("rip", 0, 998)])
        self.assertEqual(shop.tell((998, "back", "rip", "a")), [("rip", 998, 998)])
        self.assertEqual(shop.tell((997, "pass", "rip", "zoe")), [("rip", 997, 997)])

    def test_what_does_not_hold_is_refused(self):
        shop = shop_of((LENT, BACK))
        for event, place in (((15, "lend", "rip", "zoe"), ("holds", 2)), ((15, "pass", "rip", "ann"), ("holds", 2)),
                             ((15, "back", "rip", "a"), ("holds", 1)), ((15, "lose", "rip", ""), ("holds", 1)),
                             ((5, "lend", "rip", "ann"), ("holds", 0)), ((30, "find", "rip", "a"), ("holds", 2)),
                             ((30, "stone", "fine", ""), ("holds", 2)), ((5, "back", "big", "a"), ("holds", 2)),
                             ((10, "lose", "rip", ""), ("twice", 2)), ((20, "stone", "rip", ""), ("twice", 2)),
                             (LENT, ("twice", 2))):
            with self.subTest(event=event):
                self.assertEqual(self.left_alone(shop, BadHistory, ("tell", event)).place, place)
                self.assertEqual(self.refused(BadHistory, shop.tell, event).place, place)

    def test_names_that_are_not_there(self):
        # An event of the right form, but none of this stock.
        shop = shop_of((LENT,))
        for event in ((5, "lend", "nobody", "ann"), (5, "lend", "rip", "nobody"), (5, "lend", "rip", "b"),
                      (5, "back", "rip", "zoe"), (5, "stone", "cut", ""), (10, "lend", "nobody", "nobody")):
            self.assertEqual(self.left_alone(shop, BadHistory, ("tell", event)).place, ("form", 1))
            self.assertEqual(self.refused(BadHistory, shop.tell, event).place, ("form", 1))

    def test_sixty_events_and_one_more(self):
        shop = shop_of(lent_and_back(60))
        self.stands(shop, lent_and_back(60), 60)
        for event in ((60, "lend", "rip", "ann"), (5, "lend", "big", "ann"), (0, "lend", "rip", "ann"),
                      (5, "lend", "nobody", "ann"), (5, "back", "big", "a")):
            self.assertEqual(self.left_alone(shop, BadHistory, ("tell", event)).place, ("form", -1))
        self.assertEqual(shop.take(59), [("rip", 59, 999)])
        self.assertEqual(shop.tell((5, "lend", "big", "ann")), [("big", 5, 999)])
        self.assertEqual(len(shop), 60)


class Take(Standing):

    def test_those_behind_it_have_a_number_less(self):
        shop = Shop(STOCK)
        rows = (LENT, (5, "lose", "big", ""), BACK, (7, "lend", "saw", "zoe"))
        for event in rows:
            shop.tell(event)
        self.assertEqual(shop.take(1), [("big", 5, 999)])
        self.stands(shop, (rows[0], rows[2], rows[3]), 5)
        self.assertEqual(shop.do(("take", 2)), [("saw", 7, 999)])
        self.stands(shop, (LENT, BACK), 6)

    def test_the_first_the_last_and_one_behind_it(self):
        rows = ((5, "lose", "big", ""), (6, "lose", "rip", ""), (7, "lose", "saw", ""))
        for number, news in ((0, ("big", 5, 999)), (1, ("rip", 6, 999)), (2, ("saw", 7, 999))):
            shop = shop_of(rows)
            self.assertEqual(shop.take(number), [news])
            self.stands(shop, rows[:number] + rows[number + 1:], 4)
        shop = shop_of(rows)
        for number in (3, 4, 59):
            self.assertEqual(self.left_alone(shop, NoEvent, ("take", number)).number, number)
            self.assertEqual(self.refused(NoEvent, shop.take, number).number, number)
        for number in (0, 59):
            self.assertEqual(self.refused(NoEvent, Shop(STOCK).take, number).number, number)

    def test_news_by_what_is_left(self):
        shop = shop_of((LENT, (15, "pass", "rip", "zoe"), BACK))
        self.assertEqual(shop.take(1), [("rip", 15, 19)])
        self.assertEqual(shop.take(1), [("rip", 20, 999)])
        self.assertEqual(shop.take(0), [("rip", 10, 999)])
        self.stands(shop, (), 6)

    def test_what_then_does_not_hold_is_refused(self):
        # Told by the numbers behind it: the event that can't stand then has a number less.
        shop = shop_of((LENT, BACK, (30, "lose", "big", ""), (40, "find", "big", "a")))
        self.assertEqual(self.left_alone(shop, BadHistory, ("take", 0)).place, ("holds", 0))
        self.assertEqual(self.left_alone(shop, BadHistory, ("take", 2)).place, ("holds", 2))
        shop = Shop(STOCK)
        for event in ((40, "lose", "big", ""), LENT, BACK):
            shop.tell(event)
        self.assertEqual(self.refused(BadHistory, shop.take, 1).place, ("holds", 1))
        # Without the one at 15 it would be passed from ann to ann at 20, by an event told ahead of that.
        shop = Shop(STOCK)
        for event in ((5, "lend", "rip", "ann"), (10, "pass", "rip", "zoe"), (20, "pass", "rip", "ann"),
                      (15, "pass", "rip", "saw")):
            shop.tell(event)
        self.assertEqual(shop.take(1), [("rip", 10, 14)])
        self.assertEqual(self.left_alone(shop, BadHistory, ("take", 2)).place, ("holds", 1))

    def test_a_time_may_be_told_anew(self):
        shop = shop_of((LENT, BACK))
        shop.take(1)
        self.assertEqual(shop.tell((20, "stone", "rip", "")), [("rip", 20, 999)])
        self.stands(shop, (LENT, (20, "stone", "rip", "")), 4)


class Found(Standing):

    def test_just_one_is_told(self):
        shop = shop_of(((5, "lose", "rip", ""),))
        self.assertEqual(shop.found(10, "saw", 7, "b"), (["rip"], [("rip", 10, 999)]))
        self.stands(shop, ((5, "lose", "rip", ""), (10, "find", "rip", "b")), 2)
        self.assertEqual(shop.do(("found", 10, "saw", 7, "b")), ([], []))
        self.assertIs(type(shop.do(("found", 10, "saw", 7, "b"))), tuple)

    def test_none(self):
        shop = shop_of(((5, "lose", "rip", ""),))
        for deed in (("found", 4, "saw", 7, "a"), ("found", 10, "saw", 6, "a"), ("found", 10, "axe", 7, "a"),
                     ("found", 10, "lend", 99, "a")):
            self.assertEqual(shop.do(deed), ([], []))
            self.stands(shop, ((5, "lose", "rip", ""),), 1)

    def test_several_are_left_to_be_told(self):
        history = ((5, "lose", "rip", ""), (6, "lose", "twin", ""))
        shop = shop_of(history, TWINS)
        self.assertEqual(shop.found(6, "saw", 7, "b"), (["rip", "twin"], []))
        self.stands(shop, history, 2)
        self.assertEqual(shop.tell((6, "find", "rip", "b")), [("rip", 6, 999)])
        self.assertEqual(shop.found(8, "saw", 7, "b"), (["twin"], [("twin", 8, 999)]))
        self.assertEqual(shop_of(history[::-1], TWINS).found(5, "saw", 7, "b"), (["rip"], []))

    def test_at_a_time_between_others(self):
        shop = shop_of(((5, "lose", "rip", ""), (10, "find", "rip", "a"), (12, "lose", "rip", "")))
        # The tool that is lost then is found at 10: found at 7, it would not hold.
        self.assertEqual(shop.found(7, "saw", 7, "b"), (["rip"], []))
        self.assertEqual(shop.many(), 3)
        self.assertEqual(shop.found(11, "saw", 7, "b"), ([], []))
        self.assertEqual(shop.found(13, "saw", 7, "b"), (["rip"], [("rip", 13, 999)]))

    def test_one_by_which_it_would_be_told_twice(self):
        shop = shop_of(((5, "lose", "rip", ""),))
        self.assertEqual(shop.found(5, "saw", 7, "b"), (["rip"], []))
        self.stands(shop, ((5, "lose", "rip", ""),), 1)

    def test_one_event_more_than_sixty(self):
        shop = shop_of(lent_and_back(59) + ((70, "lose", "big", ""),))
        self.assertEqual(shop.found(80, "axe", 99, "a"), (["big"], []))
        self.assertEqual((len(shop), shop.many()), (60, 60))
        shop.take(58)
        self.assertEqual(shop.found(80, "axe", 99, "a"), (["big"], [("big", 80, 999)]))
        self.assertEqual((len(shop), shop.many()), (60, 62))

    def test_by_the_size_then(self):
        shop = shop_of(((1, "stone", "rip", ""), (2, "sharp", "rip", "a"), (5, "lose", "rip", "")))
        self.assertEqual(shop.found(9, "saw", 7, "b"), ([], []))
        self.assertEqual(shop.found(9, "saw", 6, "b"), (["rip"], [("rip", 9, 999)]))
        self.assertEqual(shop.size_of("rip"), 6)

    def test_the_kind_then_the_box(self):
        shop = shop_of(((5, "lose", "rip", ""),))
        for kind, box, name in (("nobody", "nobox", "nobody"), ("rip", "a", "rip"), ("saw", "nobox", "nobox"),
                                ("lend", "zoe", "zoe"), ("cut", "axe", "cut")):
            self.assertEqual(self.left_alone(shop, NoSuch, ("found", 10, kind, 7, box)).name, name)
            self.assertEqual(self.refused(NoSuch, shop.found, 10, kind, 7, box).name, name)


class Undo(Standing):

    def test_each_kind_of_deed_until_nothing_stands(self):
        shop = Shop(STOCK)
        shop.tell((5, "lose", "rip", ""))
        shop.tell((3, "lend", "big", "zoe"))
        shop.found(10, "saw", 7, "b")
        shop.take(1)
        rows = ((5, "lose", "rip", ""), (3, "lend", "big", "zoe"), (10, "find", "rip", "b"))
        self.stands(shop, (rows[0], rows[2]), 4)
        self.assertEqual(shop.undo(), [("big", 3, 999)])
        self.stands(shop, rows, 3)
        self.assertEqual(shop.do(("undo",)), [("rip", 10, 999)])
        self.stands(shop, rows[:2], 2)
        self.assertEqual(shop.undo(), [("big", 3, 999)])
        self.stands(shop, rows[:1], 1)
        self.assertEqual(shop.undo(), [("rip", 5, 999)])
        self.stands(shop, (), 0)
        self.left_alone(shop, BadDeed, ("undo",))
        self.refused(BadDeed, shop.undo)

    def test_what_is_taken_comes_back_to_its_number(self):
        rows = ((5, "lose", "big", ""), (6, "lose", "rip", ""), (7, "lose", "saw", ""))
        for number in range(3):
            shop = shop_of(rows)
            shop.take(number)
            shop.undo()
            self.stands(shop, rows, 3)

    def test_an_undone_deed_is_not_undone_again(self):
        shop = shop_of((LENT, BACK))
        shop.undo()
        shop.tell((20, "stone", "rip", ""))
        self.assertEqual(shop.undo(), [("rip", 20, 999)])
        self.stands(shop, (LENT,), 1)
        shop.undo()
        self.stands(shop, (), 0)

    def test_what_was_refused_or_did_nothing_never_stood(self):
        shop = shop_of((LENT,))
        for error, deed in ((BadDeed, None), (BadDeed, ("tell", None)), (BadHistory, ("tell", LENT)),
                            (BadHistory, ("tell", (11, "lend", "rip", "zoe"))), (NoEvent, ("take", 1)),
                            (NoSuch, ("found", 5, "nobody", 7, "a")), (NoSuch, ("found", 5, "saw", 7, "nobody"))):
            self.left_alone(shop, error, deed)
        self.assertEqual(shop.found(11, "saw", 7, "a"), ([], []))
        self.stands(shop, (LENT,), 1)
        self.assertEqual(shop.undo(), [("rip", 10, 999)])
        self.stands(shop, (), 0)

    def test_news_of_a_while(self):
        shop = shop_of((LENT, BACK))
        shop.tell((15, "pass", "rip", "zoe"))
        self.assertEqual(shop.undo(), [("rip", 15, 19)])
        self.assertEqual(shop.state_of("rip", 15), ("hand", "ann"))

    def test_more_deeds_than_events(self):
        shop = Shop(STOCK)
        for _ in range(100):
            shop.tell(LENT)
            shop.take(0)
        self.stands(shop, (), 200)
        for number in range(200):
            self.assertEqual(shop.undo(), [("rip", 10, 999)])
            self.assertEqual(len(shop), (number + 1) % 2)
        self.stands(shop, (), 0)


class AnyDeeds(Standing):

    def try_deed(self, shop, deed, history):
        """The history that a deed is to leave, or that which was, where it is refused."""
        if deed[0] == "tell":
            after = history + (deed[1],)
        elif deed[0] == "take":
            after = history[:deed[1]] + history[deed[1] + 1:]
        else:
            _, time, kind, size, box = deed
            lost = (("lost",), size)
            names = [name for name, its, _, _ in TOOLS if its == kind
                     and (state_of(STOCK, history, name, time), size_of(STOCK, history, name, time)) == lost]
            after = history + ((time, "find", names[0], box),) if len(names) == 1 else history
            fits = holds(STOCK, after)
            news = naive_news(history, after) if fits else []
            self.assertEqual(shop.do(deed), (names, news))
            return after if fits else history
        if deed[0] == "take" and deed[1] >= len(history):
            self.refused(NoEvent, shop.do, deed)
            return history
        if not holds(STOCK, after):
            self.refused(BadHistory, shop.do, deed)
            return history
        self.assertEqual(shop.do(deed), naive_news(history, after))
        return after

    def test_as_gone_through_deed_by_deed(self):
        dice = random.Random(31)
        done = {"tell": 0, "take": 0, "found": 0, "undo": 0}
        for _ in range(60):
            shop, history, past = Shop(STOCK), (), []
            deeds = [("tell", event) for event in some_history(dice) + some_history(dice)[:4]]
            for _ in range(20):
                like = dice.choice((("saw", 7), ("axe", 2), ("axe", 99)))
                found = ("found", dice.randrange(9), *like, dice.choice("ab"))
                deeds.append(dice.choice((("take", dice.randrange(8)), ("undo",), found)))
            dice.shuffle(deeds)
            for deed in deeds:
                if deed == ("undo",) and not past:
                    self.refused(BadDeed, shop.do, deed)
                    continue
                if deed == ("undo",):
                    news = naive_news(history, past[-1])
                    history = past.pop()
                    self.assertEqual(shop.do(deed), news)
                    done["undo"] += 1
                else:
                    after = self.try_deed(shop, deed, history)
                    if after != history:
                        done[deed[0]] += 1
                        past.append(history)
                    history = after
                self.stands(shop, history, len(past))
                self.assertTrue(holds(STOCK, shop.history()))
        self.assertTrue(min(done.values()) >= 10, done)


class Deeds(Standing):

    def test_what_is_none_by_form(self):
        shop = shop_of((LENT,))
        for at, thing in enumerate(odd_things()):
            with self.subTest(at=at):
                self.left_alone(shop, BadDeed, thing)
                self.left_alone(shop, BadDeed, (thing,))
                self.left_alone(shop, BadDeed, ("tell", thing))
                self.left_alone(shop, BadDeed, ("take", thing))
                self.left_alone(shop, BadDeed, ("undo", thing))
                self.left_alone(shop, BadDeed, ("found", thing))
                for parts in ((BACK,), (0,), (10, "saw", 7, "b"), ()):
                    self.left_alone(shop, BadDeed, (thing,) + parts)
                self.refused(BadDeed, shop.tell, thing)
                self.refused(BadDeed, shop.take, thing)
        for deed in ("undo", ["undo"], ["take", 0], ["tell", BACK], ("undo", ()), (("undo",),), ("Undo",), ("take",),
                     ("tell",), ("found",), ("take", 0, 0), ("tell", BACK, BACK), ("tell",) + BACK, ("lend", BACK),
                     ("find", 10, "saw", 7, "a"), BACK, (BACK,), ("take", -1), ("take", 60), ("take", True),
                     ("take", "0"),
                     ("take", (0,)), ("found", 10, "saw", 7), ("found", 10, "saw", 7, "a", "b"),
                     ("found", (10, "saw", 7, "a")), ("found", "saw", 7, "a", 10)):
            with self.subTest(deed=deed):
                self.left_alone(shop, BadDeed, deed)

    def test_an_event_by_its_form(self):
        shop = shop_of((LENT,))
        for event in (BACK[:3], BACK + ("",), list(BACK), ("20", "back", "rip", "b"), (-1, "back", "rip", "b"),
                      (1000, "back", "rip", "b"), (True, "back", "rip", "b"), (20, "Back", "rip", "b"),
                      (20, "found", "rip", "b"), (20, "back", "Rip", "b"), (20, "back", "", "b"),
                      (20, "back", "rip", ""), (20, "back", "rip", "B"), (20, "back", "rip", "b" * 9),
                      (20, "lend", "rip", ""), (20, "pass", "rip", " "), (20, "stone", "rip", "a"),
                      (20, "lose", "rip", "b"),
                      (20, "stone", "rip", None), (20, "stone", "rip", " "), (20, "sharp", "rip", ""),
                      (20, "find", "rip", "")):
            with self.subTest(event=event):
                self.left_alone(shop, BadDeed, ("tell", event))
                self.refused(BadDeed, shop.tell, event)
        for at, thing in enumerate(odd_things()):
            # "nobody" and others have the form of a NAME, "lost" and others not that of a WORD.
            name = type(thing) is str and thing.isalpha() and thing.islower() and len(thing) < 9
            for part in range(4):
                with self.subTest(at=at, part=part):
                    error = BadHistory if name and part > 1 else BadDeed
                    self.left_alone(shop, error, ("tell", changed(BACK, part, thing)))
                    if part == 3 and (type(thing) is not str or thing != ""):
                        self.left_alone(shop, BadDeed, ("tell", (20, "lose", "rip", thing)))

    def test_what_is_found_by_its_form(self):
        shop = shop_of(((5, "lose", "rip", ""),))
        deed = ("found", 10, "saw", 7, "b")
        for at, thing in enumerate(odd_things()):
            name = type(thing) is str and thing.isalpha() and thing.islower() and len(thing) < 9
            for part in range(1, 5):
                with self.subTest(at=at, part=part):
                    wrong = changed(deed, part, thing)
                    self.left_alone(shop, NoSuch if name and part in (2, 4) else BadDeed, wrong)
                    self.refused(NoSuch if name and part in (2, 4) else BadDeed, shop.found, *wrong[1:])
                    # By its form it is refused ahead of names that aren't there.
                    self.left_alone(shop, BadDeed, changed(("found", 10, "nobody", 100, "nobody"), part, thing))
        for wrong in (("found", 10, "saw", 100, "a"), ("found", 1000, "saw", 7, "a"), ("found", 10, "Saw", 7, "a"),
                      ("found", 10, "saw", 7, ""), ("found", 10, "saw", True, "a")):
            self.left_alone(shop, BadDeed, wrong)

    def test_bad_deeds_are_made_of_a_text(self):
        for deed in (None, ("undo",), deep()):
            self.assertNotEqual(str(self.refused(BadDeed, Shop(STOCK).do, deed)), "")

    def test_what_is_handed_in_is_not_changed_or_kept(self):
        deed = ["tell", list(LENT)]
        self.refused(BadDeed, Shop(STOCK).do, deed)
        self.assertEqual(deed, ["tell", list(LENT)])
        stock = list(STOCK)
        self.refused(BadStock, Shop, stock)
        self.assertEqual(stock, list(STOCK))


class Asking(Standing):

    def test_as_the_stock_and_the_history_tell(self):
        shop = shop_of(HISTORY)
        history = tuple(sorted(HISTORY))
        self.assertEqual(shop.stock(), STOCK)
        self.assertEqual(shop.history(), history)
        for name, _, _, _ in TOOLS:
            life = shop.life(name)
            self.assertIs(type(life), Life)
            self.assertEqual(life.spans(), Life(STOCK, history, name).spans())
            for time in (0, 10, 30, 60, 998, 999):
                self.assertEqual(shop.state_of(name, time), state_of(STOCK, history, name, time))
                self.assertEqual(shop.size_of(name, time=time), size_of(STOCK, history, name, time))
            self.assertEqual(shop.state_of(name), state_of(STOCK, history, name))
            self.assertEqual(shop.size_of(name), size_of(STOCK, history, name))
        for name in ("pair", "one"):
            for time in (0, 10, 30, 60, 998, 999):
                self.assertEqual(shop.lacking(name, time), pieces_lacking(STOCK, history, name, time))
            self.assertEqual(shop.lacking(name), pieces_lacking(STOCK, history, name))
        self.assertEqual(shop.lacking("pair", time=30), [("rip", ("stone",)), ("saw", ("hand", "a"))])

    def test_a_time_that_is_left_out_is_999(self):
        shop = shop_of(((5, "stone", "rip", ""), (999, "sharp", "rip", "b"), (5, "lend", "saw", "ann"),
                        (999, "back", "saw", "a")))
        self.assertEqual((shop.state_of("rip", 998), shop.state_of("rip")), (("stone",), ("box", "b")))
        self.assertEqual((shop.size_of("rip", 998), shop.size_of("rip")), (7, 6))
        self.assertEqual((shop.lacking("pair", 998), shop.lacking("pair")),
                         ([("rip", ("stone",)), ("saw", ("hand", "ann"))], []))
        self.assertEqual((shop.pick("cut", 998), shop.pick("cut", 999), shop.pick("cut")), ("spare",) * 3)
        self.assertEqual((shop.pick("cut", 998, "b"), shop.pick("cut", box="b", spare=False)), ("spare",) * 2)
        self.assertEqual(self.refused(NoneServes, shop.pick, "split", 998).work, "split")

    def test_pick(self):
        shop = shop_of(((5, "lend", "rip", "ann"), (999, "lose", "spare", "")))
        history = shop.history()
        self.assertEqual(shop.pick("cut", 4), "rip")
        self.assertEqual(shop.pick("cut", 5), "spare")
        self.assertEqual(shop.pick("cut", 5, "b"), "spare")
        self.assertEqual(shop.pick("cut", 5, None, "ann"), "rip")
        self.assertEqual(shop.pick("cut", 4, None, None, True), "spare")
        self.assertEqual(shop.pick("cut", time=4, box="a", hand="zoe", spare=False), "rip")
        self.assertEqual(shop.pick("cut", hand="ann"), "rip")
        self.assertEqual(self.refused(NoneServes, shop.pick, "cut").work, "cut")
        for box in (None,) + BOXES:
            for hand in (None,) + tuple(name for name, _ in HANDS):
                for spare in (False, True):
                    try:
                        name = pick(STOCK, history, "cut", 6, box, hand, spare)
                    except NoneServes:
                        self.refused(NoneServes, shop.pick, "cut", 6, box, hand, spare)
                    else:
                        self.assertEqual(shop.pick("cut", 6, box, hand, spare), name)
                        self.assertEqual(shop.pick("cut", time=6, box=box, hand=hand, spare=spare), name)

    def test_in_time(self):
        shop = Shop(STOCK)
        told = ((10, "lend", "big", "ann"), (10, "lend", "spare", "ann"), (5, "lose", "stone", ""),
                (10, "lend", "rip", "ann"),
                (999, "back", "rip", "a"), (0, "lend", "fine", "zoe"), (11, "back", "big", "a"),
                (10, "back", "fine", "a"))
        for event in told:
            shop.tell(event)
        rows = (told[5], told[2], told[3], told[7], told[0], told[1], told[6], told[4])
        self.assertEqual(shop.in_time(), rows)
        self.assertIs(type(shop.in_time()), tuple)
        self.assertEqual(shop.history(), told)
        self.assertEqual(str(shop), history_text(STOCK, rows))
        self.assertEqual(str(shop).split("\n")[:2], ["0 lend fine zoe", "5 lose stone"])

    def test_refusals(self):
        shop = shop_of(HISTORY)
        for at, thing in enumerate(odd_things()):
            with self.subTest(at=at):
                for ask in (shop.life, shop.pick, shop.state_of, shop.size_of, shop.lacking):
                    self.check_no_such(thing, ask, thing)
                    if ask != shop.life:
                        self.check_no_such(thing, ask, thing, None)
                for ask, name in ((shop.pick, "cut"), (shop.state_of, "rip"), (shop.size_of, "rip"),
                                  (shop.lacking, "one")):
                    self.refused(BadQuestion, ask, name, thing)
                    self.refused(BadQuestion, ask, name, time=thing)
                if thing is not None:
                    self.check_no_such(thing, shop.pick, "cut", None, thing, "nobody")
                    self.check_no_such(thing, shop.pick, "cut", None, None, thing)
                if type(thing) is not bool:
                    self.refused(BadQuestion, shop.pick, "trim", 5, None, None, thing)
        self.check_no_such("axe", shop.life, "axe")

    def test_what_is_told_is_the_askers_own(self):
        shop = shop_of(HISTORY)
        self.check_own(shop.lacking, "pair", 30)
        self.check_own(shop.lacking, "pair", 0)
        news = shop.tell((5, "lose", "stone", ""))
        news.clear()
        self.assertEqual(shop.undo(), [("stone", 5, 999)])
        shop.tell((5, "lose", "stone", ""))
        names, news = shop.found(6, "lend", 98, "a")
        names.append("new")
        news.append("new")
        self.assertEqual(shop.found(6, "lend", 98, "a"), ([], []))
        names, news = shop.found(5, "lend", 99, "a")
        names.clear()
        news.append("new")
        self.assertEqual(shop.found(5, "lend", 99, "a"), (["stone"], []))
        spans = shop.life("rip").spans()
        spans.clear()
        self.assertEqual(len(shop.life("rip").spans()), 8)

    def test_what_was_told_ahead_of_a_deed_stays(self):
        shop = shop_of((LENT,))
        life, history, lacking, news = shop.life("rip"), shop.history(), shop.lacking("pair"), shop.tell(BACK)
        shop.tell((30, "stone", "rip", ""))
        shop.take(2)
        shop.undo()
        self.assertEqual(str(life), "0 to 9 box a 7; 10 to 999 hand ann 7")
        self.assertEqual(history, (LENT,))
        self.assertEqual(lacking, [("rip", ("hand", "ann"))])
        self.assertEqual(news, [("rip", 20, 999)])
        self.assertEqual(can_be(STOCK, history, "saw", 7), [])


class Copies(Standing):

    def test_it_stands_likewise(self):
        shop = shop_of((LENT, BACK))
        shop.take(1)
        other = shop.copy()
        self.assertIs(type(other), Shop)
        self.assertTrue(other == shop)
        self.stands(other, (LENT,), 3)
        self.assertEqual(other.stock(), STOCK)
        self.assertEqual(str(other), str(shop))

    def test_each_goes_on_by_itself(self):
        shop = shop_of((LENT, BACK))
        other = shop.copy()
        other.tell((5, "lose", "big", ""))
        self.stands(shop, (LENT, BACK), 2)
        self.stands(other, (LENT, BACK, (5, "lose", "big", "")), 3)
        shop.undo()
        self.stands(shop, (LENT,), 1)
        self.stands(other, (LENT, BACK, (5, "lose", "big", "")), 3)
        shop.undo()
        self.left_alone(shop, BadDeed, ("undo",))
        for history in ((LENT, BACK), (LENT,), ()):
            other.undo()
            self.stands(other, history)
        self.left_alone(other, BadDeed, ("undo",))

    def test_of_a_shop_without_events(self):
        shop = Shop(STOCK)
        other = shop.copy()
        shop.tell(LENT)
        self.stands(other, (), 0)
        self.left_alone(other, BadDeed, ("undo",))
        other.tell(BACK[:1] + ("lose", "rip", ""))
        self.stands(shop, (LENT,), 1)


class Equality(Standing):

    def test_the_same_events_in_whatever_order_told(self):
        rows = (LENT, (5, "lose", "big", ""), (10, "lend", "saw", "ann"), (0, "stone", "spare", ""))
        shop = shop_of(rows)
        for way in itertools.permutations(rows):
            other = Shop(STOCK)
            for event in way:
                other.tell(event)
            self.assertTrue(other == shop)
            self.assertFalse(other != shop)
            self.assertEqual(str(other), str(shop))
            self.assertEqual(other.in_time(), shop.in_time())
            self.assertEqual(other.history(), way)

    def test_by_other_ways(self):
        shop = shop_of((LENT, BACK))
        other = shop_of((LENT, (20, "stone", "rip", "")))
        self.assertFalse(shop == other)
        other.take(1)
        other.tell(BACK)
        self.assertTrue(shop == other)
        self.assertNotEqual(shop.many(), other.many())
        other.undo()
        self.assertFalse(shop == other)
        lost = shop_of(((5, "lose", "rip", ""),))
        told = lost.copy()
        lost.found(10, "saw", 7, "b")
        self.assertFalse(lost == told)
        told.tell((10, "find", "rip", "b"))
        self.assertTrue(lost == told)

    def test_unlike_events(self):
        shop = shop_of((LENT,))
        for event in ((11,) + LENT[1:], (10, "lend", "rip", "zoe"), (10, "lend", "big", "ann"),
                      (10, "stone", "rip", "")):
            self.assertFalse(shop == shop_of((event,)))
        self.assertFalse(shop == Shop(STOCK))
        self.assertFalse(shop == shop_of((LENT, BACK)))
        self.assertFalse(shop_of((LENT, BACK)) == shop)

    def test_unlike_stocks(self):
        self.assertTrue(Shop(STOCK) == Shop(STOCK))
        self.assertFalse(Shop(STOCK) == Shop(with_sort(7, ())))
        self.assertFalse(shop_of((LENT,)) == shop_of((LENT,), TWINS))
        self.assertFalse(Shop(STOCK) == Shop(LEAST_STOCK))

    def test_anything_else_is_unlike(self):
        shop = shop_of((LENT,))
        for thing in odd_things() + [STOCK, shop.history(), str(shop), shop.life("rip"), Shop, Equal]:
            self.assertIs(shop.__eq__(thing), False)
        self.assertTrue(shop != "10 lend rip ann")
        self.assertFalse(shop == shop.life("rip"))
