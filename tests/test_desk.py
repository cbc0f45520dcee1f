"""Promises [2] and desk.py."""

import random
import unittest

from anything import Case, any_values
from judging import RULES, rule_made
from rowcounts.bags import Bag
from rowcounts.bases import Base
from rowcounts.books import Book
from rowcounts.desk import Desk
from rowcounts.errors import (
    BadLine, BadNumber, BadStore, Breaks, CountError, NoColumn, NoRow, NoTable, TooMany,
)
from rowcounts.hangs import gain, loss
from rowcounts.judge import alike, never_more
from rowcounts.least import least_parted
from rowcounts.questions import Table
from rowcounts.rooms import room
from rowcounts.rules import Apart, Rule, Within
from rowcounts.shortest import shortest
from rowcounts.stores import Store
from rowcounts.texts import store_text
from rowcounts.truths import Below, Missing
from rowcounts.words import read_question
from test_rules import big
from test_words import POOL, first_wrong
from trees import some_question, text_of

A, B, C = Table("a"), Table("b"), Table("c")

MOST = 10 ** 30


def small():
    return Store(Base(("x",), a=Bag(((1,), 2)), b=Bag(((1,), 3), ((4,), 1))), Within(A, B))


def goal_of(word, width):
    """What must come behind the first word of a line, or None."""
    return {"put": ["times", "of", *["value"] * width, "in", "name"], "take": ["times", "of", *["value"] * width, "in", "name"],
            "watch": ["name", "question"], "unwatch": ["name"], "undo": [], "ask": ["question"], "watched": ["name"],
            "more": ["question", ";", "question"], "alike": ["question", ";", "question"], "follows": ["rule"],
            "gain": ["name", "question"], "loss": ["name", "question"], "short": ["question"], "room": ["question"],
            "show": []}.get(word)


def wrong_in(line, width):
    """The word of a line that cannot stand, or None."""
    words = line.split(" ")
    goal = goal_of(words[0], width)
    if goal is None:
        return 0
    word = first_wrong(words[1:], goal)
    return None if word is None else word + 1


def own_answer(store, line):
    """The answer to a line that can stand, by the calls of a store."""
    word, _, rest = line.partition(" ")
    words = rest.split(" ")
    if word in ("put", "take"):
        row = tuple(None if value == "null" else int(value) for value in words[2:-2])
        (store.put if word == "put" else store.take)(words[-1], row, int(words[0]))
    elif word == "watch":
        store.watch(words[0], read_question(" ".join(words[1:])))
    elif word == "unwatch":
        store.unwatch(rest)
    if word in ("put", "take", "watch", "unwatch"):
        return "ok"
    if word == "undo":
        return store.undo() if store.deeds else "nothing"
    if word in ("ask", "watched"):
        return str(store.answer(read_question(rest)) if word == "ask" else store.watched(rest))
    if word in ("more", "alike"):
        one, other = map(read_question, rest.split(" ; "))
        if word == "alike":
            return "alike" if alike(one, other, *store.rules) else "unlike"
        return more_told(one, other, store.rules)
    if word == "follows":
        return "yes" if isinstance(Book(*store.rules).follows(Rule.read(rest)), tuple) else "no"
    if word in ("gain", "loss"):
        found = (gain if word == "gain" else loss)(read_question(" ".join(words[1:])), words[0])
        return "none" if found is None else str(found)
    if word in ("short", "room"):
        question = read_question(rest)
        return str(room(question).rank) if word == "room" else str(shortest(question) or "none")
    return " / ".join(store_text(store).split("\n"))


def more_told(one, other, rules):
    if never_more(one, other, *rules):
        return "never"
    try:
        found = least_parted(one, other, *rules)
    except TooMany as error:
        if error.what != "counts":
            raise
        return "far"
    told = [f"{column} {'null' if value is None else value}" for column, value in found.row]
    return " ".join(["least", *told, *[f"{name} {found.counts[name]}" for name in sorted(found.counts)]])


class DeskCase(Case):

    def check_line(self, desk, beside, line):
        """A line does and answers what the calls of the store beside do and answer; the word of the answer."""
        word = wrong_in(line, len(beside.base.columns))
        before, deeds = desk.store_now(), desk.deeds
        if word is not None:
            self.refused(BadLine(word), desk.say, line)
            self.assertEqual([desk.store_now(), desk.deeds], [before, deeds])
            return "bad"
        try:
            expected = own_answer(beside, line)
        except Breaks as error:
            expected = f"broken {error.rule}"
        except CountError as error:
            self.refused(error, desk.say, line)
            self.assertEqual([desk.store_now(), desk.deeds], [before, deeds])
            return "refused"
        self.same(desk.say(line), expected)
        self.assertEqual([desk.store_now(), desk.deeds], [beside.twin(), beside.deeds])
        return expected.split(" ")[0]


class LinesTest(DeskCase):

    def test_each_kind_of_line(self):
        lines = [
            "put 1 of 4 in a", "put 1 of 4 in a", f"put {MOST - 3} of 1 in b", f"put {MOST} of 1 in b", "put 1 of 1 in b",
            "put 1 of null in b", "take 2 of 1 in a", "take 1 of 1 in a", "take 1 of 5 in b", "take 1 of 1 in c",
            "put 2 of 7 in c", "watch p ( b - a )", "watch q c", "watch p a", "watched p", "watched q", "unwatch q",
            "unwatch p", "watched p", "undo", "watched p", "undo", "undo", "undo", "ask ( b - a )", "ask c",
            "ask ( a where y null )", "more a ; b", "more b ; a", "more ( a - b ) ; empty", "more ( 5 * a ) ; ( 3 * b )",
            "more ( b where x < 5 ) ; a", "more ( b where ( x null or y = 7 ) ) ; ( 1 * a )", "more b ; ( 9 * ( b & 2 ) )",
            "alike ( a - ( a - b ) ) ; a", "alike a ; b", "alike b ; ( a | b )", "follows within a ; b",
            "follows inside a ; b", "follows alike a ; b", "follows apart ( a - b ) ; c", "gain a ( ( a + a ) - b )",
            "gain b ( a - b )", "gain a ( a where has ( a - b ) )", "gain c a", "loss b ( a - b )", "loss a ( a - b )",
            "short ( a - ( a - b ) )", "short ( ( 3 * a ) - b )", "room ( a - b )", "room ( a & b )", "room empty",
            "room ( a where x null )", "show", "watch z ( a + b )", "show", "undo", "undo", "undo", "undo", "undo",
        ]
        desk, beside = Desk(small()), small()
        told = {self.check_line(desk, beside, line) for line in lines}
        self.assertEqual(told & {"ok", "broken", "refused", "bad", "never", "least", "alike", "unlike", "yes", "no",
                                 "none", "put", "watch", "unwatch", "nothing", "base"},
                         {"ok", "broken", "refused", "bad", "never", "least", "alike", "unlike", "yes", "no", "none", "put",
                          "watch", "unwatch", "nothing", "base"})

    def test_told_answers(self):
        desk = Desk(small())
        told = {
            "more a ; b": "never", "more b ; a": "least a 0 b 1", "more ( b where x < 5 ) ; a": "least x 4 a 0 b 1",
            "more ( b unless x < 5 ) ; ( a where y null )": "least x 5 y 0 a 0 b 1",
            "more ( b where ( x null and y null ) ) ; a": "least x null y null a 0 b 1", "follows apart a ; b": "no",
            "alike a ; ( a & b )": "alike", "alike a ; b": "unlike", "follows within ( 2 * a ) ; ( b + b )": "yes",
            "more ( b where has a ) ; ( 9 * ( 9 * a ) )": "far", "more c ; b": "least a 0 b 0 c 1",
            "gain a a": "1", "loss a a": "0", "gain a ( 9 * ( 2 * a ) )": "none", "short empty": "empty", "undo": "nothing",
            "room ( ( a & b ) & c )": "3", "ask ( a - b )": "none", "ask ( b + b )": "6 of 1, 2 of 4",
            "show": "base x / table a 2 of 1 / table b 3 of 1, 1 of 4 / rule within a ; b", "take 2 of 1 in b": "broken within a ; b",
        }
        for line, answer in told.items():
            self.same([desk(line), desk.say(line=line), desk(line=line)], [answer] * 3)
        self.same(desk.deeds, 0)

    def test_alike_under_none_one_and_several_rules(self):
        base = Base(("x",), a=Bag(), b=Bag(), c=Bag())
        within, apart, there = Within(A, B), Apart(A, C), Within(C, A)
        told = {
            "alike a ; ( a & b )": [(), "unlike", (within,), "alike", (apart,), "unlike", (within, apart), "alike"],
            "alike a ; ( a - c )": [(), "unlike", (within,), "unlike", (apart,), "alike", (apart, within), "alike"],
            "alike ( a & b ) ; ( a - c )": [(), "unlike", (within,), "unlike", (apart,), "unlike", (within, apart), "alike"],
            "alike c ; empty": [(), "unlike", (apart,), "unlike", (there,), "unlike", (there, apart), "alike"],
            "alike ( a | b ) ; ( b | a )": [(), "alike", (within,), "alike", (within, apart, there), "alike"],
            "alike a ; b": [(), "unlike", (within,), "unlike", (within, Within(B, A)), "alike", (within, apart, there), "unlike"],
        }
        for line, answers in told.items():
            for rules, answer in zip(answers[::2], answers[1::2]):
                self.same(Desk(Store(base, *rules))(line), answer)

    def test_drawn_lines(self):
        dice = random.Random(241)
        told = {}
        for _ in range(25):
            columns = dice.choice([("x",), ("x", "y")])
            rules = [rule_made((dice.choice(list(RULES)), some_question(dice, 0, "abc"), some_question(dice, 0, "abc")))
                     for _ in range(dice.randrange(3))]
            bags = {name: Bag() for name in "abc"}
            desk, beside = Desk(Store(Base.of(columns, bags), *rules)), Store(Base.of(columns, bags), *rules)
            for _ in range(25):
                line = self.some_line(dice, columns)
                answer = self.check_line(desk, beside, line)
                told[line.split(" ")[0], answer] = True
                self.assertNotIn("\n", answer)
        for key in (("put", "ok"), ("put", "broken"), ("take", "ok"), ("more", "never"), ("more", "least"), ("undo", "put"),
                    ("alike", "alike"), ("alike", "unlike"), ("follows", "yes"), ("follows", "no"), ("watched", "refused")):
            self.assertIn(key, told)

    def some_line(self, dice, columns):
        word = dice.choice(["put"] * 6 + ["take"] * 3 + ["watch", "unwatch", "undo", "ask", "watched", "more", "alike",
                                                         "follows", "gain", "loss", "short", "room", "show", "more"])
        if word in ("put", "take"):
            row = " ".join(dice.choice(["null", "0", "1"]) for _ in columns)
            return f"{word} {dice.choice([1, 1, 2, MOST])} of {row} in {dice.choice('abc')}"
        question = text_of(some_question(dice, dice.choice([0, 1, 2]), "abc"))
        other = text_of(some_question(dice, dice.choice([0, 1]), "abc"))
        title = dice.choice("pq")
        return {"watch": f"watch {title} {question}", "unwatch": f"unwatch {title}", "undo": "undo", "ask": f"ask {question}",
                "watched": f"watched {title}", "more": f"more {question} ; {other}", "alike": f"alike {question} ; {other}",
                "follows": f"follows {dice.choice(list(RULES))} {other} ; {question}", "show": "show",
                "gain": f"gain {dice.choice('abc')} {question}", "loss": f"loss {dice.choice('abc')} {question}",
                "short": f"short {question}", "room": f"room {question}"}[word]


class WordsTest(DeskCase):

    def test_any_value(self):
        desk, beside = Desk(small()), small()
        for value in any_values():
            if isinstance(value, str):
                self.check_line(desk, beside, value)
            else:
                self.refused(BadLine(0), desk.say, value)
                self.refused(BadLine(0), desk, value)
                self.refused(BadLine(0), desk.run, value)

    def test_told_words(self):
        wrong = {
            "": 0, " ": 0, "puts": 0, "put": 1, "put ": 1, "put 1": 2, "put 1 of": 3, "put 1 of 4": 4, "put 1 of 4 in": 5,
            "put 1 of 4 in ": 5, "put 1 of 4 in a ": 6, "put 1 of 4 in a b": 6, "put 0 of 4 in a": 1, "put -1 of 4 in a": 1,
            "put 01 of 4 in a": 1, f"put {MOST + 1} of 4 in a": 1, "put null of 4 in a": 1, "put 1 of 4, in a": 3,
            "put 1 of 4 5 in a": 4, "put 1 of x in a": 3, "put 1 of in a": 3, "put 1 of null, in a": 3, "put 1 of 4 in 4": 5,
            "put 1 of 4 in null": 5, "put 1 of 4 in a\n": 5, "put 1 of 4\nin a": 3, "undo\n": 0, "undo ": 1, "undo undo": 1,
            "show x": 1, "watch": 1, "watch p": 2, "watch p a ": 3, "watch P a": 1, "watch none a": 1, "unwatch": 1,
            "unwatch p p": 2, "watched 5": 1, "ask": 1, "ask a b": 2, "ask ( a + b": 5, "more a": 2, "more a ;": 3,
            "more a ; b ; c": 4, "more a b": 2, "more a , b": 2, "more ; b": 1, "alike a ; ( b": 5, "follows": 1,
            "follows a ; b": 1, "follows within a": 3, "follows within a ; b / within a ; b": 5, "gain a": 2, "gain": 1,
            "gain ( a - b ) a": 1, "loss a a a": 3, "short": 1, "room": 1, "room ( a & )": 4, "Undo": 0, "put 1 of ": 3,
            "ask " + "( 1 * " * 41 + "a" + " )" * 41: 121, f"put 1 of {10 ** 60} in a": 3,
        }
        desk = Desk(small())
        for line, word in wrong.items():
            self.refused(BadLine(word), desk.say, line)
            self.refused(BadLine(word), desk, line=line)
            self.assertEqual(wrong_in(line, 1), word, line)
        wide = Desk(Store(Base(("x", "y"), a=Bag())))
        self.refused(BadLine(4), wide, "put 1 of 4 in a")
        self.refused(BadLine(5), wide, "put 1 of 4 4 4 in a")
        self.same([wide("put 1 of 4 null in a"), desk.deeds], ["ok", 0])

    def test_bent_words(self):
        pool = [*POOL, ",", "of", "in", "1", "2,", "null,", ";", "/", "p", "put", "undo", "within", "inside", "c"]
        lines = ["put 1 of 4 in a", "take 2 of null in b", "watch p ( a + b )", "unwatch p", "watched p", "undo", "show",
                 "ask ( a - b )", "more a ; ( a where x < 5 )", "alike a ; b", "follows within a ; b", "gain a ( a - b )",
                 "loss b ( a & b )", "short ( 2 * a )", "room ( a | b )"]
        for line in lines:
            words = line.split(" ")
            for at in range(len(words) + 1):
                bent = [words[:at] + words[at + 1:], words[:at], words[:at] + words[at:at + 1] + words[at:],
                        words[:at] + words[at + 1:at + 2] + words[at:at + 1] + words[at + 2:]]
                bent += [words[:at] + [word] + words[at:] for word in pool]
                bent += [words[:at] + [word] + words[at + 1:] for word in pool]
                desk, beside = Desk(small()), small()
                for told in bent:
                    self.check_line(desk, beside, " ".join(told))


class ErrorsTest(DeskCase):

    def test_all_else_raises_what_is_called(self):
        desk = Desk(small())
        for line, error in {
            "put 1 of 4 in c": NoTable("c"), f"put {MOST} of 1 in a": BadNumber(MOST), "take 3 of 1 in a": NoRow((1,)),
            "take 1 of 9 in c": NoTable("c"), "watch p c": NoTable("c"), "watch p ( a where y null )": NoColumn("y"),
            "unwatch p": NoTable("p"), "watched a": NoTable("a"), "ask c": NoTable("c"), "gain c ( a + b )": NoTable("c"),
            "loss x a": NoTable("x"), f"more {big(10)} ; ( 1 * a )": TooMany("operators", 10),
            "alike ( ( a + b ) + ( c + d ) ) ; e": TooMany("tables", 4), "follows within c ; ( d + e )": TooMany("tables", 4),
            f"short {big(9)}": TooMany("operators", 8), f"room {big(11)}": TooMany("operators", 10),
            f"gain a {big(6)}": TooMany("operators", 5), f"follows inside {big(40)} ; a": TooMany("size", 40),
        }.items():
            self.refused(error, desk.say, line)
        broad = "a"
        for _ in range(6):
            broad = f"( {broad} + {broad} )"
        for line in (f"ask {broad}", f"watch p {broad}", f"more a ; {broad}", f"short {broad}", f"follows within a ; {broad}"):
            self.refused(TooMany("size", 40), desk.say, line)
        self.refused(BadLine(2 + len(broad.split(" "))), desk.say, f"watch p {broad} )")
        self.same(desk.deeds, 0)
        many = Desk(Store(small().base, *[Within(A, B * n) for n in range(1, 6)]))
        self.refused(TooMany("rules", 4), many.say, "follows within a ; b")
        self.refused(TooMany("rules", 4), many.say, "more a ; b")
        self.refused(TooMany("rules", 4), many.say, "alike a ; b")

    def test_any_store(self):
        for value in any_values():
            if not isinstance(value, Store):
                self.refused(BadStore("store"), Desk, value)
        self.same(Desk(store=small()).deeds, 0)


class RunTest(DeskCase):

    def test_run(self):
        desk = Desk(small())
        self.same([desk.run(), desk.run("put 1 of 4 in a", "ask a", "undo")], [[], ["ok", "2 of 1, 1 of 4", "put"]])
        self.same([desk.run("put 1 of 4 in a", "put 1 of 4 in a", "watch p a"), desk.deeds],
                  [["ok", "broken within a ; b", "ok"], 2])

    def test_a_run_that_is_refused_in_the_middle(self):
        desk = Desk(small())
        desk.run("put 5 of 1 in b", "watch p b")
        before = desk.store_now()
        for last, error in (("put 1 of", BadLine(3)), (None, BadLine(0)), ("ask c", NoTable("c")),
                            ("take 9 of 1 in a", NoRow((1,)))):
            self.refused(error, desk.run, "undo", "undo", "undo", "put 1 of 9 in b", "watch q a", last,
                         "put 1 of 8 in b")
            self.assertEqual([desk.store_now(), desk.deeds], [before, 2])
        self.same([desk("undo"), desk("undo"), desk("undo")], ["watch", "put", "nothing"])


class TwinTest(DeskCase):

    def test_the_desk_has_its_own_twin(self):
        store = small()
        store.put("b", (1,))
        desk = Desk(store)
        self.same([desk.deeds, desk("undo")], [0, "nothing"])
        desk("put 1 of 9 in b")
        self.same([store.deeds, (9,) in store["b"]], [1, False])
        store.put("b", (8,))
        self.same(desk("ask b"), "4 of 1, 1 of 4, 1 of 9")

    def test_store_now(self):
        desk = Desk(small())
        desk.run("watch p a", "put 1 of 9 in b")
        now = desk.store_now()
        self.same([now.deeds, now.titles, (9,) in now["b"], desk.deeds], [0, ("p",), True, 2])
        now.put("b", (7,))
        self.same([desk("ask b"), desk.store_now() == now], ["3 of 1, 1 of 4, 1 of 9", False])
        self.same([now.undo(), desk.store_now() == now, desk.store_now() is desk.store_now()], ["put", True, False])

    def test_rules_stay(self):
        desk = Desk(Store(small().base, Within(A, B), Apart(A % Below("x", 0), B), Within(A % Missing("x"), B)))
        self.same([desk("put 1 of -1 in b"), desk("put 1 of -1 in a"), desk("put 1 of null in a")],
                  ["ok", "broken apart ( a where x < 0 ) ; b", "broken within a ; b"])
        self.assertEqual(desk.store_now().rules[1], Apart(A % Below("x", 0), B))


if __name__ == "__main__":
    unittest.main()
