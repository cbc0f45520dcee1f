"""Promises [2], texts.py and reader.py."""

import random
import unittest

import test_bags
from anything import Case, any_values
from judging import RULES, rule_made
from rowcounts.bags import Bag
from rowcounts.bases import Base
from rowcounts.errors import (
    BadBase, BadPlan, BadRewrite, BadStore, BadText, Breaks, CountError, NoColumn, NoTable, TooMany, Unlike,
)
from rowcounts.plans import Plan
from rowcounts.questions import Table
from rowcounts.reader import read_base, read_plan, read_store
from rowcounts.rewrites import Rewrite
from rowcounts.rules import Apart, Inside, Rule, Within
from rowcounts.stores import Store
from rowcounts.texts import base_text, plan_text, store_text
from rowcounts.words import read_question
from test_rewrites import RIGHT
from test_rules import big
from test_truths import is_name
from test_words import POOL, first_wrong
from trees import made_of, some_question

A, B, C = Table("a"), Table("b"), Table("c")

BASE_TEXT = "base x y\ntable a 2 of 1 null, 1 of 3 4\ntable b none\ntable c 1 of null null"

STORE_TEXT = """base x
table a 2 of 1
table b 3 of 1, 1 of 4
rule within a ; b
rule inside ( a where x < 5 ) ; b
watch p ( a + b )
watch q a"""

PLAN_TEXT = """plan ( c + ( a - ( a - b ) ) )
rewrite ( x - ( x - y ) ) -> ( x & y )
rewrite ( ( a + b ) where has a ) -> ( ( a where has a ) + ( b where has a ) )"""

ORDERS = {"base": ["base", "table"], "store": ["base", "table", "rule", "watch"], "plan": ["plan", "rewrite"]}

READERS = {"base": read_base, "store": read_store, "plan": read_plan}


def wrong_names(words, start, ahead, most):
    """The index of the first word from a start on that is no name behind those ahead of it, of at most so many."""
    for at in range(start, len(words)):
        if at - start == most or not is_name(words[at]) or words[at] <= ahead:
            return at
        ahead = words[at]
    return len(words) if len(words) == start else None


def shifted(word, more):
    return None if word is None else word + more


def wrong_in_line(words, lines, order):
    """The first word that cannot stand in a line behind others, or None."""
    first = words[0]
    if not lines and first != order[0] or lines and first not in order[order.index(lines[-1][0]):] or (
            lines and first == order[0]):
        return 0
    if first == "base":
        return wrong_names(words, 1, "", 3)
    if first in ("table", "watch"):
        if first == "table" and len(lines) == 9:
            return 0
        ahead = lines[-1][1] if lines[-1][0] == first else ""
        word = wrong_names(words[:2], 1, ahead, 1)
        if word is not None:
            return word
        width = len(lines[0]) - 1
        return shifted(first_wrong(words[2:], "question") if first == "watch" else
                       test_bags.first_wrong(words[2:], (width,)), 2)
    return shifted(first_wrong(words[1:], {"plan": "question"}.get(first, first)), 1)


def wrong_in(text, kind):
    """The line and the word that cannot stand, or None."""
    lines = []
    for at, line in enumerate(text.split("\n")):
        words = line.split(" ")
        word = wrong_in_line(words, lines, ORDERS[kind])
        if word is not None:
            return at, word
        lines.append(words)
    return None


def made_from(text, kind):
    """What a text, all words of which can stand, tells, made by the readers of its parts."""
    lines = [line.partition(" ")[::2] for line in text.split("\n")]
    if kind == "plan":
        return Plan(read_question(lines[0][1]), *[Rewrite.read(rest) for _, rest in lines[1:]])
    tables = [rest.partition(" ")[::2] for word, rest in lines if word == "table"]
    base = Base.of(tuple(lines[0][1].split(" ")), {name: Bag.read(rest) for name, rest in tables})
    if kind == "base":
        return base
    store = Store(base, *[Rule.read(rest) for word, rest in lines if word == "rule"])
    for word, rest in lines:
        if word == "watch":
            store.watch(rest.split(" ")[0], read_question(rest.partition(" ")[2]))
    return store


class WritingTest(Case):

    def test_told_ones(self):
        base = Base(("x", "y"), b=Bag(), a=Bag(((3, 4), 1), ((1, None), 2)), c=Bag.of([(None, None)]))
        self.same([base_text(base), base_text(base=Base(("x",)))], [BASE_TEXT, "base x"])
        store = Store(Base(("x",), b=Bag(((1,), 3), ((4,), 1)), a=Bag(((1,), 2))), Within(A, B),
                      Rule.read("inside ( a where x < 5 ) ; b"))
        self.same(store_text(store).split("\n"), STORE_TEXT.split("\n")[:5])
        store.watch("q", A)
        store.watch("p", A + B)
        self.same([store_text(store), store_text(store=Store(Base(("y",))))], [STORE_TEXT, "base y"])
        plan = Plan(C + (A - (A - B)), RIGHT[0])
        self.same([plan_text(plan).split("\n"), plan_text(plan=Plan(A))], [PLAN_TEXT.split("\n")[:2], "plan a"])
        plan.shrink()
        self.same(plan_text(plan).split("\n")[0], "plan ( c + ( a & b ) )")

    def test_any_value(self):
        for value in any_values():
            for call, kind, error in ((base_text, Base, BadBase("base")), (store_text, Store, BadStore("store")),
                                      (plan_text, Plan, BadPlan("plan"))):
                if not isinstance(value, kind):
                    self.refused(error, call, value)
                else:
                    self.assertEqual(READERS[kind.__name__.lower()](call(value)), value)


class ReadingTest(Case):

    def check_text(self, text, kind):
        read = READERS[kind]
        wrong = wrong_in(text, kind)
        if wrong is not None:
            self.refused(BadText(*wrong), read, text)
            return
        try:
            expected = made_from(text, kind)
        except CountError as error:
            self.refused(error, read, text)
            return
        found = read(text)
        self.assertEqual([type(found), found], [type(expected), expected])
        self.same({"base": base_text, "store": store_text, "plan": plan_text}[kind](found), text)

    def test_told_ones(self):
        base, store, plan = read_base(BASE_TEXT), read_store(text=STORE_TEXT), read_plan(PLAN_TEXT)
        self.same([base.columns, base.names, str(base["a"])], [("x", "y"), ("a", "b", "c"), "2 of 1 null, 1 of 3 4"])
        self.same([store.deeds, store.titles, str(store.watched("p")), len(store.rules), list(store.changes())],
                  [0, ("p", "q"), "5 of 1, 1 of 4", 2, []])
        self.same([plan.deeds, plan.log, plan.papers, str(plan.question), plan.begun == plan.question, len(plan.rewrites)],
                  [0, (), (), "( c + ( a - ( a - b ) ) )", True, 2])
        self.assertEqual([read_base(text=BASE_TEXT), read_plan(text=PLAN_TEXT)], [base, plan])
        for text, kind in ((BASE_TEXT, "base"), (STORE_TEXT, "store"), (PLAN_TEXT, "plan"), (BASE_TEXT, "store")):
            self.check_text(text, kind)

    def test_written_and_read_back(self):
        dice = random.Random(239)
        for _ in range(60):
            width = dice.choice([1, 2, 3])
            columns = ("x", "y", "z")[:width] if dice.random() < 0.8 else ("a", "b", "x")[:width]
            bags = {name: Bag(*[(tuple(dice.choice([None, -1, 0, 10 ** 60 - 1]) for _ in range(width)),
                                 dice.choice([1, 2, 10 ** 30 // 9])) for _ in range(dice.randrange(4))]) for name in "abcd"}
            base = Base.of(columns, bags)
            self.assertEqual(read_base(base_text(base)), base)
            store = Store(base, Within(A & B, A), Inside(A, A + B))
            for title in dice.sample(["p", "watch", "table", "base"], dice.randrange(5)):
                question = made_of(some_question(dice, 2, "abcd", False))
                try:
                    store.watch(title, question)
                except TooMany:
                    continue
            found = read_store(store_text(store))
            self.assertEqual([found, found.deeds, store_text(found)], [store, 0, store_text(store)])
            plan = Plan(made_of(some_question(dice, 3)), *dice.sample(RIGHT, 3))
            plan.shrink()
            found = read_plan(plan_text(plan))
            self.assertEqual([found.question, found.rewrites, found.log, plan_text(found)],
                             [plan.question, plan.rewrites, (), plan_text(plan)])

    def test_any_value(self):
        for value in any_values():
            for kind, read in READERS.items():
                if isinstance(value, str):
                    self.check_text(value, kind)
                else:
                    self.refused(BadText(0, 0), read, value)

    def test_told_words(self):
        wrong = {
            "base": {
                "": (0, 0), "base": (0, 1), "base ": (0, 1), "bases x": (0, 0), "table a none": (0, 0), " base x": (0, 0),
                "base x x": (0, 2), "base y x": (0, 2), "base x y z w": (0, 4), "base a b c d a": (0, 4), "base w x y z": (0, 4), "base X": (0, 1),
                "base null": (0, 1), "base x\n": (1, 0), "base x\n\ntable a none": (1, 0), "base x\nbase x": (1, 0),
                "base x\ntable": (1, 1), "base x\ntable a": (1, 2), "base x\ntable a ": (1, 2), "base x\ntable a none ": (1, 3),
                "base x\ntable of none": (1, 1), "base x\ntable b none\ntable b none": (2, 1), "base x ": (0, 2),
                "base x\ntable b none\ntable a none": (2, 1), "base x\ntable a 2 of 1 4": (1, 5),
                "base x\ntable a 2 of 1,": (1, 5), "base x y\ntable a 2 of 1": (1, 5), "base x y\ntable a 2 of 1, 3": (1, 4),
                "base x y\ntable a 2 of 1 2, 1 of 1 1": (1, 9), "base x\ntable a 0 of 1": (1, 2), "base x y z\ntable a 2 of": (1, 4),
                "base x\ntable a 2 of 5, 1 of 5": (1, 7), "base x\nrule within a ; a": (1, 0), "base x\nwatch p empty": (1, 0),
                "base x\ntable a 2 of 1 ": (1, 5), "base x\ntable a 2 of 1 table b none": (1, 5), "base x\rtable": (0, 1),
            },
            "store": {
                "base x\nrule": (1, 1), "base x\nrule within a": (1, 3), "base x\nrule within a ; b /": (1, 5),
                "base x\nrule within a ; a\ntable a none": (2, 0), "base x\nwatch": (1, 1), "base x\nwatch p": (1, 2),
                "base x\nwatch p empty\nrule within empty ; empty": (2, 0), "base x\nwatch p empty\nwatch p empty": (2, 1),
                "base x\nwatch q empty\nwatch p empty": (2, 1), "base x\nwatch p empty empty": (1, 3),
                "base x\nwatch none empty": (1, 1), "base x\ntable b none\nwatch a ( b +": (2, 5), "plan a": (0, 0),
                "rule within a ; b": (0, 0), "base x\nrules within a ; b": (1, 0), "base x\nwatch p": (1, 2),
            },
            "plan": {
                "plan": (0, 1), "plan ": (0, 1), "plan ( a + b": (0, 5), "plan a b": (0, 2), "plan a\nplan a": (1, 0),
                "plan a\nrewrite": (1, 1), "plan a\nrewrite a": (1, 2), "plan a\nrewrite a ->": (1, 3),
                "plan a\nrewrite a -> a a": (1, 4), "plan a\n": (1, 0), "rewrite a -> a": (0, 0), "plan a\nrule within a ; b": (1, 0),
                "plan a\nrewrite a ; a": (1, 2), "base x": (0, 0), "plan ( a + b )\nrewrite ( x & x -> x": (1, 5),
            },
        }
        for kind, texts in wrong.items():
            for text, place in texts.items():
                self.refused(BadText(*place), READERS[kind], text)
                self.assertEqual(wrong_in(text, kind), place, text)

    def test_the_ninth_table(self):
        lines = [f"table {name} none" for name in "abcdefgh"]
        eight = "\n".join(["base x", *lines])
        self.same(len(read_base(eight)), 8)
        for kind in ("base", "store"):
            self.refused(BadText(9, 0), READERS[kind], f"{eight}\ntable i none")
            self.refused(BadText(9, 0), READERS[kind], f"{eight}\ntable")
        self.same(len(read_store(f"{eight}\nrule within a ; b\nwatch table a")), 8)

    def test_changed_words(self):
        """Each line with a word left out, doubled, put in and exchanged."""
        pool = [*POOL, "b", "c", "y", ",", ";", "/", "->", "of", "1", "2,", "null,", "base", "table", "rule", "watch", "plan",
                "rewrite", "within", "inside", "b\ntable", "\n", "x\nwatch z a"]
        for text, kind in ((BASE_TEXT, "base"), (STORE_TEXT, "store"), (PLAN_TEXT, "plan")):
            lines = [line.split(" ") for line in text.split("\n")]
            for at, words in enumerate(lines):
                for place in range(len(words) + 1):
                    bent = [words[:place] + words[place + 1:], words[:place], words[:place] + words[place:place + 1] + words[place:],
                            words[:place] + words[place + 1:place + 2] + words[place:place + 1] + words[place + 2:]]
                    bent += [words[:place] + [word] + words[place:] for word in pool]
                    bent += [words[:place] + [word] + words[place + 1:] for word in pool]
                    for other in bent:
                        told = lines[:at] + [other] + lines[at + 1:]
                        self.check_text("\n".join(" ".join(line) for line in told), kind)

    def test_changed_lines(self):
        for text, kind in ((BASE_TEXT, "base"), (STORE_TEXT, "store"), (PLAN_TEXT, "plan"), (STORE_TEXT, "base"),
                           (PLAN_TEXT, "store"), (BASE_TEXT, "plan")):
            lines = text.split("\n")
            for at in range(len(lines)):
                self.check_text("\n".join(lines[:at] + lines[at + 1:]), kind)
                self.check_text("\n".join(lines[:at] + lines[at:at + 1] + lines[at:]), kind)
                self.check_text("\n".join(lines[:at] + [""] + lines[at:]), kind)
                for place in range(len(lines)):
                    told = list(lines)
                    told[at], told[place] = told[place], told[at]
                    self.check_text("\n".join(told), kind)

    def test_what_the_classes_raise(self):
        base = "base x\ntable a 2 of 1\ntable b 3 of 1"
        self.refused(NoTable("c"), read_store, f"{base}\nrule within a ; c")
        self.refused(NoColumn("y"), read_store, f"{base}\nrule within a ; ( b where y null )")
        self.refused(Breaks(Within(B, A)), read_store, f"{base}\nrule within b ; a\nrule apart a ; b")
        self.refused(NoTable("c"), read_store, f"{base}\nwatch p c")
        self.refused(TooMany("size", 40), read_store, f"{base}\nrule inside {big(40)} ; a")
        self.refused(TooMany("times", 10 ** 30), read_store, f"{base}\nwatch p " + "( 9 * " * 34 + "a" + " )" * 34)
        many = ", ".join(f"1 of {n}" for n in range(61))
        self.refused(TooMany("rows", 60), read_base, f"base x\ntable a {many}")
        self.refused(BadText(2, 0), read_base, f"base x\ntable a {many}\n")
        self.refused(Unlike(Rewrite(A - B, A).verdict), read_plan, "plan a\nrewrite ( a - b ) -> a")
        self.refused(BadRewrite("blank"), read_plan, "plan a\nrewrite a -> b")
        self.refused(BadText(2, 2), read_plan, "plan a\nrewrite a -> b\nrewrite a")
        self.refused(TooMany("operators", 10), read_plan, f"plan a\nrewrite {big(10)} -> ( 1 * a )")
        self.refused(TooMany("rewrites", 12), read_plan, "plan a" + "\nrewrite a -> a" * 13)
        self.same(len(read_plan("plan a" + "\nrewrite a -> a" * 12).rewrites), 12)
        try:
            read_store(f"{base}\nrule within b ; a")
        except Breaks as error:
            self.same(error.__cause__.row, (1,))

    def test_all_kinds_of_rules(self):
        for word in RULES:
            text = f"base x\ntable a none\ntable b none\nrule {word} a ; b"
            self.assertEqual(read_store(text).rules, (rule_made((word, ("table", "a"), ("table", "b"))),))
        self.assertEqual(read_store("base x\ntable a none\nrule apart a ; a").rules, (Apart(A, A),))


if __name__ == "__main__":
    unittest.main()
