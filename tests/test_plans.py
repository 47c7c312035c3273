"""The fewest new tools for a list of works: plans, runs, papers, and what a checker says of them."""

import itertools
import random

from edgeshop.errors import BadPaper, BadQuestion, NoneServes
from edgeshop.plans import check_paper, fewest, paper_for, plan_for
from edgeshop.stocks import need_stock
from tests.refusals import Refusing
from tests.samples import STOCK, changed, deep, odd_things, with_sort

ASKS = (fewest, plan_for, paper_for)

# Saws can't be below 3: last is done at just 3, under not at all; wide is told from 0, but done from 3 on.
STORE = need_stock((
    (("saw", 3), ("axe", 0), ("gouge", 50)), (), (), (), (), (),
    (("wide", "saw", 0, 99), ("fine", "saw", 3, 5), ("mid", "saw", 5, 7), ("rough", "saw", 8, 12),
     ("last", "saw", 0, 3), ("under", "saw", 0, 2), ("chop", "axe", 5, 9), ("split", "axe", 0, 2)), ()))

GOOD = ("wide", "fine", "mid", "rough", "last", "chop", "split")


def ranges_of(stock, works):
    """Each work as (KIND, LOW, HIGH), by the words of [25]."""
    leasts = dict(stock[0])
    rows = {name: (kind, max(low, leasts[kind]), high) for name, kind, low, high in stock[6]}
    return [rows[name] for name in works]


def is_run(rows, numbers):
    """Whether no two of the works can be done by one tool, by the words of [26]."""
    return all(rows[one][0] != rows[later][0] or rows[later][1] > rows[one][2]
               for one, later in itertools.combinations(numbers, 2))


def longest_run(rows, numbers):
    """How many works the longest RUN among these has, by all of them."""
    return max(many for many in range(len(numbers) + 1)
               if any(is_run(rows, some) for some in itertools.combinations(numbers, many)))


def one_tool_does(rows):
    """Whether one tool does these works, each at the greatest SIZE that it then can have."""
    size = 99
    for kind, low, high in rows:
        size = min(size, high)
        if kind != rows[0][0] or size < low:
            return False
    return True


def least_tools(rows):
    """The fewest tools, by all ways to share the works among them."""
    ways = [[]]
    for row in rows:
        shared = []
        for way in ways:
            shared.append(way + [[row]])
            for at, tool in enumerate(way):
                if one_tool_does(tool + [row]):
                    shared.append(way[:at] + [tool + [row]] + way[at + 1:])
        ways = shared
    return min(len(way) for way in ways)


def plan_by_the_words(rows):
    """The PLAN of [27]."""
    plan = []
    for at, (kind, _, high) in enumerate(rows):
        mine = [number for number in range(at) if rows[number][0] == kind]
        number = max(many for many in range(len(mine) + 1)
                     if any(is_run(rows, some + (at,)) for some in itertools.combinations(mine, many)))
        highs = [rows[other][2] for other in range(at) if plan[other][:2] == (kind, number)]
        plan.append((kind, number, min(highs + [high])))
    return tuple(plan)


def some_store(dice):
    """A stock with works of two kinds, all of which can be done."""
    works = []
    for name in "abcdefgh":
        kind, least = dice.choice((("saw", 3), ("axe", 0)))
        low = dice.randrange(9)
        works.append((name, kind, low, max(least, low + dice.randrange(4))))
    return need_stock(((("saw", 3), ("axe", 0)), (), (), (), (), (), tuple(works), ()))


class Plans(Refusing):

    def told(self, plan, *works):
        """That this is the PLAN that is told, and that all else fits to it."""
        self.assertEqual(plan_for(STORE, works), plan)
        many = len({triple[:2] for triple in plan})
        self.assertEqual(fewest(STORE, works), many)
        told, run = paper_for(STORE, works)
        self.assertEqual(told, plan)
        self.assertEqual(len(run), many)
        self.assertIsNone(check_paper(STORE, works, (told, run)))

    def test_a_list_of_none(self):
        self.told(())
        self.assertEqual(fewest(STORE, ()), 0)
        self.assertEqual(paper_for(STORE, ()), ((), ()))

    def test_a_list_of_one(self):
        self.told((("saw", 0, 99),), "wide")
        self.told((("saw", 0, 3),), "last")
        self.told((("axe", 0, 9),), "chop")

    def test_sizes_never_rise(self):
        self.told((("saw", 0, 12), ("saw", 0, 7), ("saw", 0, 5)), "rough", "mid", "fine")
        self.told((("saw", 0, 5), ("saw", 0, 5), ("saw", 1, 12)), "fine", "mid", "rough")
        self.told((("saw", 0, 7), ("saw", 0, 5), ("saw", 0, 5)), "mid", "fine", "mid")

    def test_the_later_low_may_be_just_the_earlier_high(self):
        # fine is from 3 to 5, mid from 5 to 7: one tool of 5 does both; last is 3 at most, so mid needs another.
        self.told((("saw", 0, 5), ("saw", 0, 5)), "fine", "mid")
        self.told((("saw", 0, 3), ("saw", 1, 7)), "last", "mid")
        self.told((("saw", 0, 3), ("saw", 0, 3)), "last", "fine")

    def test_the_size_is_the_least_high_up_to_the_work(self):
        self.told((("saw", 0, 99), ("saw", 0, 12), ("saw", 0, 12)), "wide", "rough", "wide")
        self.told((("saw", 0, 99), ("saw", 0, 5), ("saw", 0, 5), ("saw", 0, 3), ("saw", 0, 3)),
                  "wide", "fine", "wide", "last", "wide")

    def test_the_number_is_by_the_longest_run_not_by_the_first_tool_that_is_free(self):
        # rough comes behind last and mid, which is behind last: two are ahead of it.
        self.told((("saw", 0, 3), ("saw", 1, 7), ("saw", 2, 12)), "last", "mid", "rough")
        # The second rough could be done by the tool of the first one, and it is.
        self.told((("saw", 0, 12), ("saw", 0, 3), ("saw", 1, 12)), "rough", "last", "rough")
        # Behind last it is another tool that does fine and mid, not the first one with a SIZE for it.
        self.told((("saw", 0, 99), ("saw", 0, 3), ("saw", 1, 7), ("saw", 0, 3)), "wide", "last", "mid", "fine")

    def test_a_work_in_it_several_times(self):
        self.told((("saw", 0, 7),) * 12, *["mid"] * 12)
        self.told((("saw", 0, 5), ("saw", 1, 12)) * 2, "fine", "rough", "fine", "rough")

    def test_kinds_are_counted_by_themselves(self):
        self.told((("saw", 0, 5), ("axe", 0, 9), ("saw", 1, 12), ("axe", 0, 2), ("axe", 1, 9)),
                  "fine", "chop", "rough", "split", "chop")
        self.told((("axe", 0, 2), ("saw", 0, 3), ("axe", 1, 9), ("saw", 1, 12)), "split", "last", "chop", "rough")

    def test_a_low_below_its_kinds_least_is_that_least(self):
        # wide is told from 0, but a saw is never below 3; gouges not below 50.
        stock = with_sort(6, (("a", "saw", 0, 2), ("b", "saw", 0, 99), ("c", "gouge", 0, 50), ("d", "gouge", 10, 60),
                              ("e", "axe", 0, 2)), STORE)
        self.assertEqual(plan_for(stock, ("c", "d", "c")), (("gouge", 0, 50),) * 3)
        self.assertEqual(self.refused(NoneServes, fewest, stock, ("b", "a")).work, "a")
        self.assertEqual(plan_for(stock, ("e", "b")), (("axe", 0, 2), ("saw", 0, 99)))
        stock = ((("k", 3),), (), (), (), (), (), (("a", "k", 0, 3), ("b", "k", 0, 9), ("c", "k", 4, 9)), ())
        self.assertEqual(plan_for(stock, ("a", "b", "c")), (("k", 0, 3), ("k", 0, 3), ("k", 1, 9)))

    def test_a_high_that_is_just_the_least(self):
        self.told((("saw", 0, 99), ("saw", 0, 3), ("saw", 0, 3)), "wide", "last", "wide")
        stock = with_sort(0, (("saw", 4), ("axe", 0), ("gouge", 50)), STORE)
        self.assertEqual(self.refused(NoneServes, fewest, stock, ("wide", "last")).work, "last")

    def test_as_many_tools_as_works(self):
        rows = tuple((name, "k", 2 * at, 2 * at + 1) for at, name in enumerate("abcdefgh"))
        stock = ((("k", 0),), (), (), (), (), (), rows, ())
        plan = tuple(("k", at, 2 * at + 1) for at in range(8))
        self.assertEqual(plan_for(stock, tuple("abcdefgh")), plan)
        self.assertEqual(fewest(stock, tuple("abcdefgh")), 8)
        self.assertEqual(paper_for(stock, tuple("abcdefgh")), (plan, tuple(range(8))))
        # The other way round one tool does them all.
        self.assertEqual(fewest(stock, tuple("hgfedcba")), 1)
        self.assertEqual(plan_for(stock, tuple("hgfedcba")), tuple(("k", 0, 2 * at + 1) for at in range(7, -1, -1)))

    def test_twelve_works(self):
        works = ("fine", "rough", "last", "mid", "wide", "chop", "split", "chop", "fine", "rough", "split", "wide")
        rows = ranges_of(STORE, works)
        self.told(plan_by_the_words(rows), *works)
        self.assertEqual(fewest(STORE, works), longest_run(rows, range(12)))

    def test_as_all_ways_tell(self):
        dice = random.Random(25)
        seen = set()
        for _ in range(150):
            stock = some_store(dice)
            works = tuple(dice.choice("abcdefgh") for _ in range(dice.randrange(8)))
            rows = ranges_of(stock, works)
            plan = plan_for(stock, works)
            self.assertEqual(plan, plan_by_the_words(rows))
            many = fewest(stock, works)
            seen.add(many)
            self.assertEqual(many, len({triple[:2] for triple in plan}))
            self.assertEqual(many, least_tools(rows))
            self.assertEqual(many, longest_run(rows, range(len(works))))
            told, run = paper_for(stock, works)
            self.assertEqual(told, plan)
            self.assertEqual(list(run), sorted(set(run)))
            self.assertTrue(is_run(rows, run))
            self.assertEqual(len(run), many)
            self.assertIsNone(check_paper(stock, works, (told, run)))
            self.assertEqual(paper_for(stock, works), (told, run))
        self.assertTrue(seen >= {0, 1, 2, 3, 4}, seen)

    def test_plans_and_runs_are_tuples(self):
        plan, run = paper_for(STORE, GOOD)
        for thing in (plan, run, plan_for(STORE, GOOD), paper_for(STORE, GOOD), *plan):
            self.assertIs(type(thing), tuple)
        for kind, number, size in plan:
            self.assertEqual([type(part) for part in (kind, number, size)], [str, int, int])
        self.assertEqual({type(number) for number in run}, {int})
        self.assertIs(type(fewest(STORE, GOOD)), int)


WORKS = ("fine", "rough", "split", "mid", "chop")
PLAN = (("saw", 0, 5), ("saw", 1, 12), ("axe", 0, 2), ("saw", 0, 5), ("axe", 1, 9))
RUN = (0, 1, 2, 4)


class Papers(Refusing):

    def place(self, paper, works=WORKS, stock=STORE):
        return self.refused(BadPaper, check_paper, stock, works, paper).place

    def test_the_sample_is_right(self):
        self.assertEqual(plan_for(STORE, WORKS), PLAN)
        self.assertIsNone(check_paper(STORE, WORKS, (PLAN, RUN)))
        self.assertIsNone(check_paper(STORE, WORKS, paper_for(STORE, WORKS)))

    def test_other_papers_are_right_too(self):
        # Other numbers, other sizes, another tool, another RUN.
        self.assertIsNone(check_paper(STORE, WORKS, (
            (("saw", 11, 5), ("saw", 3, 8), ("axe", 7, 0), ("saw", 3, 7), ("axe", 0, 5)), RUN)))
        self.assertIsNone(check_paper(STORE, ("fine", "mid", "fine", "rough"), (
            (("saw", 0, 5), ("saw", 0, 5), ("saw", 0, 3), ("saw", 1, 9)), (2, 3))))
        self.assertIsNone(check_paper(STORE, (), ((), ())))

    def test_what_is_no_pair_at_all(self):
        for at, thing in enumerate(odd_things()):
            with self.subTest(at=at):
                self.assertEqual(self.place(thing), 0)
                self.assertEqual(self.place((thing, RUN)), 0)
                self.assertEqual(self.place((PLAN, (thing,) + RUN[1:])), 0)
                self.assertEqual(self.place(changed((PLAN, RUN), 0, changed(PLAN, 2, thing))), 0)
                if type(thing) is not tuple or thing != ():
                    self.assertEqual(self.place((PLAN, thing)), 0)
                    self.assertEqual(self.place(thing, ()), 0)
                    self.assertEqual(self.place((thing, ()), ()), 0)
                    self.assertEqual(self.place(((), thing), ()), 0)
        for thing in ([PLAN, RUN], (PLAN,), (PLAN, RUN, ()), (list(PLAN), RUN), (PLAN, list(RUN)), (RUN, PLAN),
                      (PLAN, None), (PLAN, range(3)), {PLAN: RUN}, deep(), (deep(), deep())):
            self.assertEqual(self.place(thing), 0)

    def test_what_is_no_plan_by_its_form(self):
        for plan in (PLAN[:4], PLAN + PLAN[:1], (), tuple(list(row) for row in PLAN)):
            self.assertEqual(self.place((plan, RUN)), 0)
        for at in range(5):
            kind, number, size = PLAN[at]
            for row in ((kind, number), (kind, number, size, 0), (kind, size), [kind, number, size], (),
                        ("Saw", number, size), ("", number, size), ("k" * 9, number, size), (number, kind, size),
                        (kind, -1, size), (kind, 12, size), (kind, True, size), (kind, "0", size), (kind, None, size),
                        (kind, number, -1), (kind, number, 100), (kind, number, True), (kind, number, str(size))):
                with self.subTest(at=at, row=row):
                    self.assertEqual(self.place((changed(PLAN, at, row), RUN)), 0)
            for part in range(3):
                for thing in odd_things():
                    # "nobody" and others are NAMEs, but no kinds here.
                    place = (1, at) if part == 0 and type(thing) is str and thing.isalpha() and thing.islower() \
                        and len(thing) < 9 else 0
                    self.assertEqual(self.place((changed(PLAN, at, changed(PLAN[at], part, thing)), RUN)), place)

    def test_what_is_no_run_by_its_form(self):
        for run in ((0, 1, 4, 2), (4, 2, 1, 0), (0, 0, 1, 2), (0, 1, 2, 2), (0, 1, 2, 5), (-1, 0, 1, 2),
                    (0, 1, 2, 4, 4),
                    (0, True, 2, 4), (False, 1, 2, 4), (0, 1, 2, "4"), (0, 1, 2, None), (0, 1, (2,), 4), (0, 1, [2], 4),
                    (0, 1, 2, 10 ** 5000), (0, 1, 2, 12)):
            self.assertEqual(self.place((PLAN, run)), 0)
        self.assertEqual(self.place(((), (0,)), ()), 0)

    def test_a_work_of_another_kind(self):
        self.assertEqual(self.place((changed(PLAN, 0, ("axe", 0, 5)), RUN)), (1, 0))
        self.assertEqual(self.place((changed(PLAN, 2, ("saw", 0, 2)), RUN)), (1, 2))
        self.assertEqual(self.place((changed(PLAN, 4, ("saw", 0, 5)), RUN)), (1, 4))
        self.assertEqual(self.place((changed(PLAN, 4, ("nobody", 1, 9)), RUN)), (1, 4))

    def test_a_size_that_the_work_does_not_let(self):
        for at, sizes in enumerate(((3, 5), (8, 12), (0, 2), (5, 5), (5, 9))):
            kind, number, _ = PLAN[at]
            for size in range(100):
                paper = (changed(PLAN, at, (kind, number, size)), RUN)
                with self.subTest(at=at, size=size):
                    if not sizes[0] <= size <= sizes[1]:
                        self.assertEqual(self.place(paper), (1, at))
                    # A tool of 3 or 4 ahead of mid is too small for it.
                    elif at == 0 and size < 5:
                        self.assertEqual(self.place(paper), (1, 3))
                    else:
                        self.assertIsNone(check_paper(STORE, WORKS, paper))

    def test_a_size_below_the_kinds_least(self):
        for size in (0, 1, 2):
            self.assertEqual(self.place(((("saw", 0, size),), (0,)), ("wide",)), (1, 0))
            self.assertEqual(self.place(((("saw", 0, size),), (0,)), ("last",)), (1, 0))
        for size in (3, 4, 99):
            self.assertIsNone(check_paper(STORE, ("wide",), ((("saw", 0, size),), (0,))))
        self.assertIsNone(check_paper(STORE, ("last",), ((("saw", 0, 3),), (0,))))

    def test_a_size_that_rises(self):
        wide = ("wide",) * 4
        for sizes, place in (((9, 9, 9, 9), None), ((9, 8, 7, 6), None), ((9, 8, 9, 6), (1, 2)), ((9, 8, 8, 9), (1, 3)),
                             ((8, 9, 9, 9), (1, 1)), ((9, 7, 8, 6), (1, 2)), ((3, 99, 3, 3), (1, 1))):
            paper = (tuple(("saw", 4, size) for size in sizes), (0,))
            if place is None:
                self.assertIsNone(check_paper(STORE, wide, paper))
            else:
                self.assertEqual(self.place(paper, wide), place)
        # It may rise with another tool, and counts behind that one, too.
        plan = (("saw", 0, 8), ("saw", 1, 9), ("saw", 0, 8), ("saw", 1, 9))
        self.assertEqual(self.place((plan, (0,)), wide), 3)
        self.assertEqual(self.place((changed(plan, 2, ("saw", 0, 9)), (0,)), wide), (1, 2))
        self.assertEqual(self.place((changed(plan, 3, ("saw", 0, 9)), (0,)), wide), (1, 3))
        # Tools of unlike kinds with one NUMBER are unlike ones.
        self.assertIsNone(check_paper(STORE, ("split", "mid"), ((("axe", 0, 2), ("saw", 0, 7)), (0, 1))))

    def test_two_of_a_run_that_one_tool_does(self):
        self.assertEqual(self.place((PLAN, (0, 1, 2, 3, 4))), (2, 3))
        self.assertEqual(self.place((PLAN, (0, 3))), (2, 3))
        # fine is below rough and behind it: one tool does both.
        works = ("rough", "fine", "mid", "rough")
        plan = (("saw", 0, 12), ("saw", 0, 5), ("saw", 0, 5), ("saw", 1, 12))
        self.assertIsNone(check_paper(STORE, works, (plan, (2, 3))))
        self.assertIsNone(check_paper(STORE, works, (plan, (1, 3))))
        self.assertEqual(self.place((plan, (0, 3)), works), (2, 3))
        self.assertEqual(self.place((plan, (0, 1)), works), (2, 1))
        self.assertEqual(self.place((plan, (1, 2)), works), (2, 2))
        self.assertEqual(self.place((plan, (0, 1, 2, 3)), works), (2, 1))
        self.assertEqual(self.place((plan, (1, 2, 3)), works), (2, 2))

    def test_a_run_is_looked_at_by_the_least_too(self):
        # last is 3 at most, and wide not below 3: one tool of 3 does both.
        plan = (("saw", 0, 3), ("saw", 1, 9))
        self.assertEqual(self.place((plan, (0, 1)), ("last", "wide")), (2, 1))
        self.assertEqual(self.place((plan, (1,)), ("last", "wide")), 3)
        self.assertIsNone(check_paper(STORE, ("last", "wide"), ((("saw", 0, 3),) * 2, (1,))))

    def test_as_many_tools_as_works_of_the_run(self):
        for run in ((0, 1, 2), (0, 1, 4), (1, 2, 4), (0,), ()):
            self.assertEqual(self.place((PLAN, run)), 3)
        self.assertEqual(self.place((changed(PLAN, 3, ("saw", 2, 5)), RUN)), 3)
        self.assertEqual(self.place((changed(PLAN, 3, ("saw", 2, 5)), (0, 1))), 3)

    def test_of_several_faults_the_first_one(self):
        wrong = changed(PLAN, 3, ("saw", 0, 6))
        self.assertEqual(self.place((wrong, (0, 3))), (1, 3))
        self.assertEqual(self.place((wrong, (0, 3, 3))), 0)
        self.assertEqual(self.place((wrong, RUN)), (1, 3))
        self.assertEqual(self.place((changed(wrong, 1, ("saw", 1, 13)), (0, 3))), (1, 1))
        self.assertEqual(self.place((changed(wrong, 4, ("axe", 12, 9)), (0, 3))), 0)
        self.assertEqual(self.place((changed(PLAN, 3, ("saw", 2, 5)), (0, 3))), (2, 3))
        self.assertEqual(self.place((changed(PLAN, 3, ("saw", 2, 5)), (0, 1, 2, 3))), (2, 3))

    def test_as_the_words_tell_of_any_paper(self):
        dice = random.Random(26)
        seen = set()
        for _ in range(3000):
            works = tuple(dice.choice(("fine", "mid", "rough", "chop")) for _ in range(3))
            rows = ranges_of(STORE, works)
            plan = tuple((dice.choice((kind,) * 9 + ("axe",)), dice.randrange(2),
                          dice.choice((low, low, low + 1, high)))
                         for kind, low, high in rows)
            run = tuple(number for number in range(3) if dice.random() < 0.6)
            # From the last fault to the first one: that is left.
            place = None if len({triple[:2] for triple in plan}) == len(run) else 3
            for at in range(2, -1, -1):
                if at in run and any(not is_run(rows, (other, at)) for other in run if other < at):
                    place = (2, at)
            for at in range(2, -1, -1):
                sizes = [size for kind, number, size in plan[:at] if (kind, number) == plan[at][:2]]
                if plan[at][0] != rows[at][0] or not rows[at][1] <= plan[at][2] <= min([rows[at][2]] + sizes):
                    place = (1, at)
            seen.add(place)
            if place is None:
                self.assertIsNone(check_paper(STORE, works, (plan, run)))
            else:
                self.assertEqual(self.place((plan, run), works), place)
        self.assertEqual(seen, {None, 3, (2, 1), (2, 2), (1, 0), (1, 1), (1, 2)})


class Refusals(Refusing):

    def all_asks(self):
        return [(ask, ()) for ask in ASKS] + [(check_paper, ((PLAN, RUN),)), (check_paper, (None,))]

    def test_a_stock_first(self):
        for ask in ASKS:
            self.check_stock_first(ask, (GOOD,))
        self.check_stock_first(check_paper, (WORKS, (PLAN, RUN)))

    def test_then_what_is_no_list(self):
        for ask, behind in self.all_asks():
            for at, thing in enumerate(odd_things()):
                if type(thing) is not tuple:
                    with self.subTest(ask=ask, at=at):
                        self.refused(BadQuestion, ask, STORE, thing, *behind)
            for thing in (["fine"], "fine", ("fine",) * 13, ("nobody",) * 13, ("under",) * 13, (deep(),) * 13):
                self.refused(BadQuestion, ask, STORE, thing, *behind)
        self.assertEqual(fewest(STORE, ("fine",) * 12), 1)

    def test_then_the_first_name_that_is_not_there(self):
        for ask, behind in self.all_asks():
            for at, thing in enumerate(["saw", "axe"] + odd_things()):
                for works in ((thing,), ("under", thing, "nobody"), ("fine",) * 11 + (thing,), (thing,) * 12):
                    with self.subTest(ask=ask, at=at, many=len(works)):
                        self.check_no_such(thing, ask, STORE, works, *behind)

    def test_then_the_first_work_that_can_not_be_done(self):
        stock = with_sort(6, STORE[6][:7] + (("bored", "gouge", 0, 49),), STORE)
        for ask, behind in self.all_asks():
            self.assertEqual(self.refused(NoneServes, ask, stock, ("under",), *behind).work, "under")
            self.assertEqual(self.refused(NoneServes, ask, stock, ("fine", "bored", "under"), *behind).work, "bored")
            self.assertEqual(self.refused(NoneServes, ask, stock, ("fine", "under", "bored"), *behind).work, "under")
            self.assertEqual(self.refused(NoneServes, ask, stock, ("fine",) * 11 + ("bored",), *behind).work, "bored")
        # No tool of the stock counts: trim is done by none of them but fine, and that is kept.
        self.assertEqual(plan_for(STOCK, ("trim", "cut")), (("saw", 0, 3), ("saw", 1, 7)))

    def test_a_paper_is_looked_at_behind_all_that(self):
        for thing in odd_things():
            self.refused(BadQuestion, check_paper, STORE, None, thing)
            self.check_no_such("nobody", check_paper, STORE, ("nobody",), thing)
            self.assertEqual(self.refused(NoneServes, check_paper, STORE, ("under",), thing).work, "under")

    def test_what_is_handed_in_is_not_changed(self):
        works, paper = ["fine"], [[("saw", 0, 5)], [0]]
        self.refused(BadQuestion, fewest, STORE, works)
        self.refused(BadPaper, check_paper, STORE, ("fine",), paper)
        self.assertEqual((works, paper), (["fine"], [[("saw", 0, 5)], [0]]))
