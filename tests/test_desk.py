"""A desk: each line that it takes, each answer to the sign, each refusal."""

import random

from edgeshop.desk import ANSWERS, Desk
from edgeshop.errors import BadText
from edgeshop.events import all_states, at_bench, held_by, in_box, lost_ones
from edgeshop.eventtexts import history_text
from edgeshop.lines import FORMS
from edgeshop.shop import Shop
from edgeshop.stocktexts import stock_text
from tests.refusals import Refusing
from tests.samples import HISTORY, STOCK, STOCK_TEXT, TOOLS, full_stock, odd_things, some_history

# Those of the sample that tell the whole way of rip, by their TIMEs, and what happens to two others.
ROWS = ("10 lend rip zoe", "20 pass rip ann", "30 stone rip", "40 sharp rip b", "50 lend rip zoe", "60 lose rip",
        "30 lend saw a", "10 stone spare")

STORE_TEXT = "\n".join([
    "kind saw 2", "kind axe 0", "box a", "box c", "box b", "box d",
    "tool one saw 9 a", "tool two saw 9 a", "tool chip axe 10 a", "tool hew axe 10 b", "tool three saw 9 b",
    "tool four saw 9 b", "hand ann top", "hand zoe top", "hand bob low", "set all one hew chip four",
    "set pair two three",
    "gauge big saw 9 20", "gauge mid saw 0 9", "gauge all axe 0 99",
    "work cut saw 5 9", "work chop axe 5 12", "work fine saw 0 4", "work none saw 0 1", "work split axe 50 60",
])

# Each sort of line, with its words.
LINES = {
    "take 0": ("take", "0"), "found 5 saw 7 a": ("found", "5", "saw", "7", "a"), "undo": ("undo",),
    "5 lend rip ann": ("5", "lend", "rip", "ann"), "6 stone rip": ("6", "stone", "rip"),
    "stock": ("stock",), "history": ("history",), "where rip 5": ("where", "rip", "5"), "life rip": ("life", "rip"),
    "box a 5": ("box", "a", "5"), "hand ann 5": ("hand", "ann", "5"), "bench low 5": ("bench", "low", "5"),
    "lost 5": ("lost", "5"), "stone 5": ("stone", "5"), "pick cut 5": ("pick", "cut", "5"),
    "set pair 5": ("set", "pair", "5"),
    "can saw 7 5": ("can", "saw", "7", "5"), "alike 5": ("alike", "5"), "new cut chop": ("new", "cut", "chop"),
    "new": ("new",),
}

# Those whose last word is a TIME that may be left out.
TIMED = ("where rip 5", "box a 5", "hand ann 5", "bench low 5", "lost 5", "stone 5", "pick cut 5", "set pair 5",
         "can saw 7 5", "alike 5")


class Saying(Refusing):

    def desk(self, *lines, text=STOCK_TEXT):
        """A desk that is said these deeds, none of which is refused."""
        desk = Desk(text)
        for line in lines:
            self.assertEqual(desk.say(line)[:4], "done", line)
        return desk

    def says(self, desk, pairs):
        for line, answer in pairs.items():
            with self.subTest(line=line):
                self.assertEqual(desk.say(line), answer)

    def refuses(self, desk, line, answer):
        """That a line is refused, changing nothing."""
        before = desk.say("history")
        self.assertEqual(desk.say(line), answer)
        self.assertEqual(desk.say("history"), before)


class Texts(Refusing):

    def row_of(self, text):
        return self.refused(BadText, Desk, text).row

    def test_what_is_no_text_of_a_stock(self):
        for at, thing in enumerate(odd_things()):
            with self.subTest(at=at):
                self.assertEqual(self.row_of(thing), 0 if type(thing) is str else -1)
        rows = STOCK_TEXT.split("\n")
        for number in range(len(rows)):
            self.assertEqual(self.row_of("\n".join(rows[:number] + ["x"] + rows[number:])), number)
        self.assertEqual(self.row_of(STOCK_TEXT + "\n"), len(rows))
        self.assertEqual(self.row_of(STOCK), -1)

    def test_each_desk_has_a_shop_of_its_own(self):
        one, other = Desk(STOCK_TEXT), Desk(STOCK_TEXT)
        self.assertEqual(one.say("5 lend rip ann"), "done ; rip 5 999")
        self.assertEqual(other.say("history"), "none")
        self.assertEqual(other.say("undo"), "nothing")

    def test_each_first_word_has_an_answer(self):
        self.assertEqual(sorted(ANSWERS), sorted(list(FORMS) + ["new", "tell"]))


class Deeds(Saying):

    def test_rows_of_events(self):
        desk = self.desk()
        for line, news in (("10 lend rip zoe", "rip 10 999"), ("20 pass rip ann", "rip 20 999"),
                           ("30 stone rip", "rip 30 999"),
                           ("40 sharp rip b", "rip 40 999"), ("50 lend rip zoe", "rip 50 999"),
                           ("60 lose rip", "rip 60 999"),
                           ("70 find rip saw", "rip 70 999"), ("0 lend big saw", "big 0 999"),
                           ("999 back big a", "big 999 999"),
                           ("5 pass big ann", "big 5 998"), ("25 pass rip zoe", "rip 25 29"),
                           ("29 pass rip saw", "rip 29 29")):
            self.assertEqual(desk.say(line), "done ; " + news)

    def test_take(self):
        desk = self.desk("5 lend rip ann", "6 lose big", "7 back rip b")
        self.says(desk, {"take 1": "done ; big 6 999", "history": "5 lend rip ann ; 7 back rip b"})
        self.says(desk, {"take 0": "doesn't hold 0", "take 1": "done ; rip 7 999"})
        self.says(desk, {"take 1": "no event", "take 0": "done ; rip 5 999", "history": "none"})

    def test_undo(self):
        desk = self.desk("5 lend rip ann", "9 back rip a", "7 pass rip zoe", "take 1")
        # Without the one at 9 it is with zoe from 7 on.
        for answer in ("done ; rip 9 999", "done ; rip 7 8", "done ; rip 9 999", "done ; rip 5 999", "nothing",
                       "nothing"):
            self.assertEqual(desk.say("undo"), answer)
        self.assertEqual(desk.say("history"), "none")

    def test_found_that_is_told(self):
        desk = self.desk("5 lose rip")
        self.assertEqual(desk.say("found 9 saw 7 b"), "done ; is rip ; rip 9 999")
        self.says(desk, {"history": "5 lose rip ; 9 find rip b", "undo": "done ; rip 9 999", "where rip": "lost 7"})

    def test_found_that_may_be_several_one_or_none(self):
        desk = self.desk("5 lose one", "6 lose four", "7 lose two", text=STORE_TEXT)
        self.says(desk, {"found 7 saw 9 a": "done ; may be one two four", "found 6 saw 9 a": "done ; may be one four",
                         "found 4 saw 9 a": "done ; none", "found 9 axe 10 a": "done ; none"})
        # It is just one that is lost then, but so told it would have two events at 5.
        self.assertEqual(desk.say("found 5 saw 9 a"), "done ; may be one")
        self.says(desk, {"history": "5 lose one ; 6 lose four ; 7 lose two", "undo": "done ; two 7 999",
                         "found 7 saw 9 c": "done ; may be one four", "6 find one d": "done ; one 6 999",
                         "found 9 saw 9 c": "done ; is four ; four 9 999", "where four": "box c 9",
                         "where one": "box d 9"})

    def test_found_between_others(self):
        desk = self.desk("5 lose rip", "9 find rip a")
        self.says(desk, {"found 7 saw 7 b": "done ; may be rip", "undo": "done ; rip 9 999"})

    def test_what_does_nothing_can_not_be_undone(self):
        desk = self.desk("5 lose rip", "found 5 saw 7 a", "found 9 axe 2 a")
        self.says(desk, {"undo": "done ; rip 5 999"})
        self.says(desk, {"undo": "nothing"})


class Questions(Saying):

    def test_stock(self):
        self.assertEqual(Desk(STOCK_TEXT).say("stock"), STOCK_TEXT.replace("\n", " ; "))
        self.assertEqual(Desk("kind k 0").say("stock"), "kind k 0")
        self.assertEqual(self.desk("5 lend rip ann").say("stock"), STOCK_TEXT.replace("\n", " ; "))

    def test_history(self):
        self.assertEqual(Desk(STOCK_TEXT).say("history"), "none")
        self.assertEqual(self.desk("30 stone rip").say("history"), "30 stone rip")
        self.assertEqual(self.desk(*ROWS).say("history"), " ; ".join(ROWS))
        self.assertEqual(self.desk("30 stone rip", "5 lend rip ann").say("history"), "30 stone rip ; 5 lend rip ann")

    def test_where(self):
        self.says(self.desk(*ROWS), {
            "where rip 0": "box a 7", "where rip 9": "box a 7", "where rip 10": "hand zoe 7",
            "where rip 20": "hand ann 7",
            "where rip 39": "stone 7", "where rip 40": "box b 6", "where rip 60": "lost 6", "where rip 999": "lost 6",
            "where rip": "lost 6", "where fine": "box a 3", "where spare": "stone 5", "where big": "box saw 99"})

    def test_life(self):
        self.says(self.desk("5 stone rip", "8 sharp rip b", "0 lend big ann"), {
            "life rip": "0 to 4 box a 7; 5 to 7 stone 7; 8 to 999 box b 6", "life big": "0 to 999 hand ann 99",
            "life fine": "0 to 999 box a 3"})

    def test_names_of_tools(self):
        self.says(self.desk(*ROWS), {
            "box a 0": "rip fine stone", "box a 10": "fine stone", "box a": "fine stone", "box b 0": "saw spare",
            "box b 10": "saw", "box b 30": "none", "box b 45": "rip", "box b": "none", "box saw": "big",
            "hand zoe 9": "none", "hand zoe 10": "rip", "hand zoe 20": "none", "hand zoe 55": "rip", "hand zoe": "none",
            "hand a": "saw", "hand ann 20": "rip",
            "bench low 9": "none", "bench low 10": "rip", "bench top 20": "rip", "bench low 20": "none",
            "bench mid": "saw",
            "lost": "rip", "lost 59": "none", "lost 60": "rip", "stone": "spare", "stone 9": "none",
            "stone 30": "rip spare",
            "stone 40": "spare"})
        self.says(self.desk("9 lend saw zoe", "8 lend rip saw", "7 lend big zoe", "9 lose fine", "9 lose stone"), {
            "bench low": "rip saw big", "hand zoe": "saw big", "hand saw": "rip", "lost": "fine stone",
            "bench low 8": "rip big"})

    def test_pick(self):
        self.says(self.desk(*ROWS), {
            "pick cut 0": "rip", "pick cut 10": "none serves", "pick cut 40": "rip", "pick cut": "none serves",
            "pick chop": "big", "pick split": "none serves", "pick saw 7": "stone", "pick trim": "none serves"})

    def test_set(self):
        self.says(self.desk(*ROWS), {
            "set pair 9": "none", "set one": "none", "set pair 10": "rip hand zoe by g",
            "set pair 20": "rip hand ann by g",
            "set pair 30": "rip stone by g ; saw hand a by saw", "set pair 40": "saw hand a by saw",
            "set pair": "rip lost by g ; saw hand a by saw"})
        self.says(self.desk("5 lose one", "6 stone chip", "7 lend four bob", "8 lend hew ann", "9 lose three",
                            text=STORE_TEXT), {
            "set all 4": "none", "set all 5": "one lost by big", "set all 6": "one lost by big ; chip stone by all",
            "set all 7": "one lost by big ; chip stone by all ; four hand bob by mid",
            "set all": "one lost by big ; hew hand ann by all ; chip stone ; four hand bob by mid",
            "set pair": "three lost by big"})

    def test_can(self):
        self.says(self.desk("5 lose one", "6 lose four", "7 stone two", "8 sharp two a", "9 lose two",
                            text=STORE_TEXT), {
            "can saw 9 4": "none", "can saw 9 5": "one", "can saw 9 6": "one four", "can saw 9": "one four",
            "can saw 8 8": "none", "can saw 8": "two", "can axe 9": "none", "can saw 0": "none",
            "can axe 99 0": "none"})

    def test_alike(self):
        self.says(self.desk("5 lose one", "6 lose four", "7 lend two ann", "7 lend three ann", "8 lend hew ann",
                            "9 lend chip ann", text=STORE_TEXT), {
            "alike 4": "b a ; d c", "alike 5": "d c", "alike 6": "b a ; d c", "alike 7": "b a ; d c",
            "alike 8": "b c ; d c", "alike 9": "c a ; b a ; d a", "alike": "c a ; b a ; d a", "alike 0": "b a ; d c"})
        self.says(Desk(STOCK_TEXT), {"alike": "none", "alike 0": "none"})
        self.says(Desk("kind k 0"), {"alike": "none"})

    def test_new(self):
        self.says(Desk(STORE_TEXT), {
            "new": "0", "new cut": "1 ; saw 0 9", "new cut cut": "1 ; saw 0 9 ; saw 0 9",
            "new cut fine": "1 ; saw 0 9 ; saw 0 4", "new fine cut": "2 ; saw 0 4 ; saw 1 9",
            "new fine chop cut split": "4 ; saw 0 4 ; axe 0 12 ; saw 1 9 ; axe 1 60",
            "new none": "none serves", "new cut none": "none serves",
            "new " + " ".join(["cut"] * 12): "1" + " ; saw 0 9" * 12})
        # New tools have nothing to do with those that are lent, kept or lost.
        self.says(self.desk("5 lose rip"), {"new cut trim": "1 ; saw 0 7 ; saw 0 3",
                                            "new trim cut": "2 ; saw 0 3 ; saw 1 7"})

    def test_without_a_box_a_hand_a_tool(self):
        self.says(Desk("kind k 0"), {
            "lost": "none", "stone": "none", "alike": "none", "history": "none", "new": "0", "can k 0": "none",
            "box a": "no such a", "hand a": "no such a", "bench a": "no such a", "set a": "no such a",
            "pick a": "no such a",
            "where a": "no such a", "life a": "no such a", "new a": "no such a", "can a 0": "no such a"})

    def test_a_time_that_is_left_out_is_999(self):
        for lines in ((), ROWS, ROWS + ("999 find rip b", "999 lose fine", "999 lend big ann")):
            desk = self.desk(*lines)
            for line in TIMED:
                short = line.rsplit(" ", 1)[0]
                self.assertEqual(desk.say(short), desk.say(short + " 999"))
        self.assertEqual(self.desk("999 lose fine").say("lost"), "fine")
        self.assertEqual(self.desk("999 lose fine").say("lost 998"), "none")

    def test_questions_change_nothing(self):
        desk = self.desk(*ROWS)
        told = {line: desk.say(line) for line in LINES if line not in ("undo", "take 0") and not line[0].isdigit()}
        for _ in range(2):
            for line, answer in told.items():
                self.assertEqual(desk.say(line), answer)
        self.assertEqual(desk.say("history"), " ; ".join(ROWS))
        for _ in ROWS:
            self.assertEqual(desk.say("undo")[:4], "done")
        self.assertEqual(desk.say("undo"), "nothing")

    def test_told_late_is_as_told_in_time(self):
        rows = ("10 lend rip zoe", "30 stone rip", "5 lose big", "12 lend saw a")
        one, other = self.desk(*rows), self.desk(*rows[::-1])
        for line in list(TIMED) + ["life rip", "stone 30", "hand zoe 10", "set pair 12", "lost", "new cut"]:
            self.assertEqual(one.say(line), other.say(line))
            self.assertEqual(one.say(line.rsplit(" ", 1)[0]), other.say(line.rsplit(" ", 1)[0]))


class NoLine(Saying):

    def test_what_is_no_text_and_no_such_line(self):
        desk = self.desk(*ROWS)
        for at, thing in enumerate(odd_things()):
            # That one is a line, without its TIME.
            if type(thing) is not str or thing != "lost":
                with self.subTest(at=at):
                    self.refuses(desk, thing, "no line")
        self.refuses(desk, ["lost"], "no line")
        self.refuses(desk, ("lost",), "no line")
        self.refuses(desk, b"lost", "no line")
        self.refuses(desk, (5, "stone", "rip", ""), "no line")

    def test_signs_and_line_ends(self):
        for line, words in LINES.items():
            desk = self.desk("2 lose rip", "3 find rip a")
            for wrong in ("\n" + line, line + "\n", line + "\n" + line, line.replace(" ", "\n", 1) + "\n", " " + line,
                          line + " ", line.replace(" ", "  ", 1) + " ", line.upper(), line.capitalize() + ".",
                          line + ".",
                          "?" + line, line + " ;", line + "; undo", line.replace(" ", "\t") + "\t",
                          line.replace(" ", ",") + ",",
                          '"' + line + '"', line + "\\"):
                with self.subTest(line=line, wrong=wrong):
                    self.refuses(desk, wrong, "no line")
            for at in range(1, len(words)):
                self.refuses(desk, " ".join(words[:at]) + "  " + " ".join(words[at:]), "no line")
                self.refuses(desk, " ".join(words[:at]) + "\n" + " ".join(words[at:]), "no line")
                self.refuses(desk, " ".join(words[:at]) + " \n " + " ".join(words[at:]), "no line")

    def test_a_word_more_or_less(self):
        desk = self.desk("2 lose rip", "3 find rip a")
        for line, words in LINES.items():
            for more in ("rip", "5", "ann", "0", "9" * 5000, "a" * 5000):
                if line[:3] != "new" or more not in ("rip", "ann"):
                    with self.subTest(line=line, more=more[:9]):
                        self.refuses(desk, line + " " + more, "no line")
            if len(words) > 1 and line not in TIMED and line[:3] != "new":
                self.refuses(desk, line.rsplit(" ", 1)[0], "no line")
        for line in TIMED:
            if len(LINES[line]) > 2:
                self.refuses(desk, line.rsplit(" ", 2)[0], "no line")
        for line in ("5", "5 lend", "5 lend rip", "5 stone", "lend rip ann", "5 stone rip a", "5 lend rip ann 5",
                     "found",
                     "where 5", "box 5", "can saw", "can 5", "take", "life", "pick", "set", "hand", "bench"):
            self.refuses(desk, line, "no line")

    def test_thirteen_works(self):
        desk = Desk(STOCK_TEXT)
        self.refuses(desk, "new " + " ".join(["cut"] * 13), "no line")
        self.refuses(desk, "new " + " ".join(["nobody"] * 13), "no line")
        self.refuses(desk, "new" + " cut" * 5000, "no line")
        self.assertEqual(desk.say("new" + " cut" * 12), "1" + " ; saw 0 7" * 12)
        self.refuses(desk, "new 5", "no line")
        self.refuses(desk, "new cut 5", "no line")

    def test_forms_of_each_word(self):
        desk = self.desk("2 lose rip", "3 find rip a")
        numbers = ("05", "00", "-1", "+5", "5.0", "1_0", "x", "5a", "9" * 5000, "0" * 5000, "")
        names = ("5", "Rip", "rip1", "r-p", "k" * 9, "a" * 5000, "9" * 5000, "", "?")
        for line, words in LINES.items():
            for at, word in enumerate(words):
                if at == 0 and not word.isdigit():
                    wrongs = ("", "x", word + "s", word[1:], word.upper(), "tell", "9" * 5000, "rip")
                elif word.isdigit():
                    wrongs = numbers + (("100",) if (words[0], at) in (("found", 3), ("can", 2)) else ("60",)
                                        if words[0] == "take" else ("1000",))
                else:
                    wrongs = names
                for wrong in wrongs:
                    with self.subTest(line=line, at=at, wrong=wrong[:12]):
                        self.refuses(desk, " ".join(words[:at] + (wrong,) + words[at + 1:]), "no line")

    def test_deeds_by_their_other_names(self):
        desk = Desk(STOCK_TEXT)
        for line in ("tell 5 lend rip ann", "tell", "do undo", "undo 1", "many", "copy", "in time", "5 found saw 7 a",
                     "5 lost rip", "stand pair", "fewest cut", "none"):
            self.refuses(desk, line, "no line")


class NoSuchName(Saying):

    def test_the_first_name_that_is_not_there(self):
        desk = self.desk(*ROWS)
        for line, name in (("5 lend nobody ann", "nobody"), ("5 lend rip nobody", "nobody"),
                           ("5 lend other nobody", "other"),
                           ("5 lend rip b", "b"), ("5 pass rip low", "low"), ("5 back rip zoe", "zoe"),
                           ("5 sharp rip ann", "ann"),
                           ("5 find rip nobody", "nobody"), ("5 stone cut", "cut"), ("5 lose axe", "axe"),
                           ("5 lend zoe rip", "zoe"),
                           ("found 5 nobody 7 other", "nobody"), ("found 5 saw 7 other", "other"),
                           ("found 5 rip 7 a", "rip"),
                           ("found 5 saw 7 zoe", "zoe"), ("where nobody 5", "nobody"), ("where axe", "axe"),
                           ("life cut", "cut"),
                           ("box zoe 5", "zoe"), ("box nobody", "nobody"), ("hand b", "b"), ("hand low 5", "low"),
                           ("bench zoe", "zoe"), ("bench nobody 5", "nobody"), ("pick rip", "rip"),
                           ("pick nobody 5", "nobody"),
                           ("set rip", "rip"), ("set nobody 5", "nobody"), ("can rip 7", "rip"),
                           ("can nobody 7 5", "nobody"),
                           ("new nobody", "nobody"), ("new cut nobody other", "nobody"), ("new cut rip nobody", "rip"),
                           ("new " + "cut " * 11 + "nobody", "nobody")):
            with self.subTest(line=line):
                self.refuses(desk, line, "no such " + name)

    def test_behind_no_line(self):
        desk = self.desk(*ROWS)
        for line in ("05 lend nobody ann", "5 lend nobody", "5 lend nobody Ann", "5 stone nobody ann",
                     "where nobody 1000",
                     "where nobody 05", "life nobody 5", "can nobody 100", "can nobody", "found 5 nobody 100 other",
                     "found 5 nobody 7 Other", "new nobody 5", "new nobody " + "cut " * 11 + "cut", "pick nobody -1"):
            self.refuses(desk, line, "no line")

    def test_ahead_of_all_others(self):
        full = [f"{time} {('lend rip ann', 'back rip a')[time % 2]}" for time in range(60)]
        desk = self.desk(*full)
        for line, name in (("70 lend nobody ann", "nobody"), ("5 lend rip nobody", "nobody"), ("70 lend rip b", "b"),
                           ("5 back big zoe", "zoe")):
            self.refuses(desk, line, "no such " + name)
        self.refuses(Desk(STORE_TEXT), "new none nobody", "no such nobody")


class Refused(Saying):

    def test_too_many_then_twice_then_what_does_not_hold(self):
        full = [f"{time} {('lend rip ann', 'back rip a')[time % 2]}" for time in range(60)]
        desk = self.desk(*full[:59])
        self.refuses(desk, "5 back rip a", "twice")
        self.refuses(desk, "5 lose rip", "twice")
        self.refuses(desk, "60 find rip a", "doesn't hold 59")
        self.refuses(desk, "5 back big a", "doesn't hold 59")
        self.assertEqual(desk.say(full[59]), "done ; rip 59 999")
        for line in ("60 lend rip ann", "5 back rip a", "5 lose rip", "60 find rip a", "5 back big a",
                     "5 lend big ann"):
            self.refuses(desk, line, "too many")
        self.assertEqual(desk.say("take 59"), "done ; rip 59 999")
        self.assertEqual(desk.say("5 lend big ann"), "done ; big 5 999")
        self.assertEqual(desk.say("found 5 saw 7 a"), "done ; none")

    def test_found_of_a_sixty_first_event(self):
        full = [f"{time} {('lend rip ann', 'back rip a')[time % 2]}" for time in range(59)]
        desk = self.desk(*full, "5 lose big")
        self.assertEqual(desk.say("found 9 axe 99 a"), "done ; may be big")

    def test_twice(self):
        desk = self.desk("5 lend rip ann", "9 back rip b")
        for line in ("5 lend rip ann", "5 lend rip zoe", "9 stone rip", "5 find rip a"):
            self.refuses(desk, line, "twice")
        self.assertEqual(desk.say("9 lend big ann"), "done ; big 9 999")

    def test_does_not_hold(self):
        desk = self.desk("20 lend rip ann", "30 back rip b", "5 lend big zoe")
        for line, number in (("10 stone rip", 0), ("10 lose rip", 0), ("25 back rip a", 1), ("25 pass rip ann", 3),
                             ("40 back rip a", 3), ("4 lend big ann", 2), ("6 find spare a", 3), ("40 stone fine", 3),
                             ("40 sharp spare a", 3)):
            self.refuses(desk, line, f"doesn't hold {number}")
        self.assertEqual(desk.say("8 lend fine ann"), "done ; fine 8 999")
        self.refuses(desk, "9 stone fine", "doesn't hold 4")

    def test_take_by_the_numbers_behind_it(self):
        desk = self.desk("5 lend big zoe", "20 lend rip ann", "30 back rip b", "9 back big a")
        self.refuses(desk, "take 1", "doesn't hold 1")
        self.refuses(desk, "take 0", "doesn't hold 2")
        self.assertEqual(desk.say("take 3"), "done ; big 9 999")
        self.assertEqual(desk.say("take 0"), "done ; big 5 999")
        self.refuses(desk, "take 0", "doesn't hold 0")
        desk = self.desk("5 lend rip ann", "10 pass rip zoe", "20 pass rip ann", "15 pass rip saw", "take 1")
        self.refuses(desk, "take 2", "doesn't hold 1")

    def test_no_event(self):
        self.refuses(Desk(STOCK_TEXT), "take 0", "no event")
        desk = self.desk("5 lend rip ann")
        for number in (1, 2, 9, 10, 59):
            self.refuses(desk, f"take {number}", "no event")
        for number in (60, 99, 100, 999, 1000):
            self.refuses(desk, f"take {number}", "no line")

    def test_nothing(self):
        desk = Desk(STOCK_TEXT)
        self.refuses(desk, "undo", "nothing")
        for line in ("5 back rip a", "take 0", "found 5 saw 7 a", "where rip", "nonsense"):
            desk.say(line)
        self.refuses(desk, "undo", "nothing")

    def test_none_serves(self):
        self.refuses(Desk(STOCK_TEXT), "pick trim", "none serves")
        self.refuses(Desk(STORE_TEXT), "new cut none", "none serves")
        self.refuses(Desk(STORE_TEXT), "pick none", "none serves")

    def test_what_is_refused_can_not_be_undone(self):
        desk = self.desk("5 lend rip ann")
        for line in ("5 lend rip ann", "6 lend rip zoe", "take 1", "take 60", "found 5 nobody 7 a", "x", None,
                     "new nobody"):
            desk.say(line)
        self.assertEqual(desk.say("undo"), "done ; rip 5 999")
        self.assertEqual(desk.say("undo"), "nothing")


class AsTheShop(Saying):

    def test_a_desk_and_a_shop_told_the_same(self):
        dice = random.Random(35)
        done = 0
        for _ in range(40):
            desk, shop = Desk(STOCK_TEXT), Shop(STOCK)
            for event in some_history(dice):
                try:
                    news = shop.tell(event)
                    done += 1
                except ValueError as fault:
                    self.assertEqual(desk.say(" ".join(map(str, event)).rstrip()), f"doesn't hold {fault.place[1]}")
                else:
                    answer = "".join(f" ; {tool} {start} {last}" for tool, start, last in news)
                    self.assertEqual(desk.say(" ".join(map(str, event)).rstrip()), "done" + answer)
            history = shop.history()
            self.assertEqual(desk.say("history"), history_text(STOCK, history).replace("\n", " ; ") or "none")
            for time in (0, 3, 6, 999):
                for tool, _, _, _ in TOOLS:
                    state = all_states(STOCK, history, time)[tool]
                    size = shop.size_of(tool, time)
                    self.assertEqual(desk.say(f"where {tool} {time}"), " ".join(state) + f" {size}")
                for line, names in ((f"box b {time}", in_box(STOCK, history, "b", time)),
                                    (f"hand ann {time}", held_by(STOCK, history, "ann", time)),
                                    (f"bench low {time}", at_bench(STOCK, history, "low", time)),
                                    (f"lost {time}", lost_ones(STOCK, history, time))):
                    self.assertEqual(desk.say(line), " ".join(names) or "none")
            self.assertEqual(desk.say("life rip"), str(shop.life("rip")))
        self.assertGreater(done, 100)

    def test_the_sample_said_row_by_row(self):
        desk = Desk(STOCK_TEXT)
        for event in sorted(HISTORY):
            self.assertEqual(desk.say(" ".join(map(str, event)).rstrip())[:7], "done ; ")
        self.assertEqual(desk.say("where rip"), "box saw 6")
        self.assertEqual(desk.say("stock"), STOCK_TEXT.replace("\n", " ; "))

    def test_a_full_stock(self):
        desk = Desk(stock_text(full_stock()))
        self.assertEqual(desk.say("box ba"), " ".join(tool[0] for tool in full_stock()[2]))
        self.assertEqual(desk.say("alike"), " ; ".join(f"{box} bb" for box in ("bc", "bd", "be")))
        self.assertEqual(desk.say("new wa wb wc wd we wf wg wh"), "1" + " ; ka 0 9" * 8)
