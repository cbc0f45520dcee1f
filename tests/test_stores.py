"""Promises [2], [6], [7] and stores.py."""

import random
import unittest

from anything import Case, any_values, is_integer
from judging import RULES, pairs_told, rule_made
from rowcounts.bags import Bag
from rowcounts.bases import Base
from rowcounts.errors import (
    AtRow, BadName, BadNumber, BadQuestion, BadRow, BadRule, BadStore, Breaks, NoColumn, NoDeed, NoRow, NoTable, TooMany,
)
from rowcounts.questions import Empty, Question, Table
from rowcounts.rules import Alike, Apart, Inside, Rule, Within
from rowcounts.stores import Store
from rowcounts.truths import Below, Missing
from store_model import OwnStore, Refusal, is_row, shown
from trees import made_of, some_question

A, B, C = Table("a"), Table("b"), Table("c")

MOST = 10 ** 30

LOW = Below("x", 1)

FULL = Bag.of([(n,) for n in range(60)])


def small():
    """A store over one column with two tables and a rule."""
    return Store(Base(("x",), a=Bag(((1,), 2)), b=Bag(((1,), 3), ((4,), 1))), Within(A, B))


class StoreCase(Case):

    def breaks(self, rule, row, call, *told, **named):
        """A call raises Breaks of a rule from AtRow of a row."""
        with self.assertRaises(Breaks) as caught:
            call(*told, **named)
        self.assertEqual(caught.exception.rule, rule)
        self.assertEqual(vars(caught.exception), {"rule": rule})
        self.same([type(caught.exception.__cause__), caught.exception.__cause__.row], [AtRow, row])

    def stays(self, store, error, call, *told, **named):
        """A call is refused and changes nothing."""
        before, deeds = shown(store), store.deeds
        self.refused(error, call, *told, **named)
        self.assertEqual([shown(store), store.deeds], [before, deeds])


class MakingTest(StoreCase):

    def test_properties(self):
        base = Base(("x", "y"), b=Bag(((1, None), 2)), a=Bag())
        rules = (Within(A, B), Apart(A, B))
        store = Store(base, *rules)
        self.assertEqual([store.base, store.rules, store["b"], store["a"]], [base, rules, base["b"], Bag()])
        self.same([len(store), store.titles, store.deeds, list(store.changes()), "a" in store, "c" in store],
                  [2, (), 0, [], True, False])
        self.assertEqual([Store(Base(("x",))).base, len(Store(Base(("x",)))), Store(base=base).rules],
                         [Base(("x",)), 0, ()])
        for value in any_values():
            self.same(value in store, value in ("a", "b"))
            if value not in ("a", "b"):
                self.refused(NoTable(value), lambda: store[value])

    def test_no_iteration(self):
        with self.assertRaises(TypeError):
            iter(small())
        with self.assertRaises(TypeError):
            list(small())

    def test_errors_in_order(self):
        base = small().base
        for value in any_values():
            if not isinstance(value, Base):
                self.refused(BadStore("base"), Store, value)
                self.refused(BadStore("base"), Store, value, value)
            if not isinstance(value, Rule):
                self.refused(BadRule(0), Store, base, value)
                self.refused(BadRule(2), Store, base, Within(A, C), Within(B, A), value, value)
        self.refused(NoTable("c"), Store, base, Within(A, B), Within(A, C), Within(B, A))
        self.refused(NoColumn("y"), Store, base, Within(A % Missing("y"), C))
        self.refused(NoTable("c"), Store, base, Within(C % Missing("y"), B))
        self.breaks(Within(B, A), (1,), Store, base, Within(A, B), Within(B, A), Within(A, C))
        self.breaks(Alike(A, B), (1,), Store, base, Alike(A, B), Within(B, A))
        self.breaks(Inside(B, A), (4,), Store, base, Inside(B, A))
        great = base.with_bag("a", Bag(((1,), MOST)))
        self.refused(TooMany("times", MOST), Store, great, Within(A + B, A))
        self.refused(TooMany("rows", 60), Store, Base(("x",), a=FULL, b=Bag.of([(-1,)])), Within(Empty(), A + B))

    def test_what_is_passed_stays(self):
        base = small().base
        store = Store(base, Within(A, B))
        store.put("b", (4,), 3)
        store["a"] = Bag()
        self.assertEqual(base, small().base)
        got = store.base
        store.put("b", (9,))
        self.same(len(got["b"]), 2)


class DrawnTest(StoreCase):
    """All deeds against the store of plain dicts."""

    VALUES = [None, 0, 1, 2]

    TIMES = [1, 1, 1, 2, 3, 7, MOST - 2, MOST, MOST + 1, 0, -1, True, None, "1"]

    def some_store(self, dice, rules):
        """A drawn store and its model."""
        while True:
            width = dice.choice([1, 1, 2])
            columns = ("x", "y")[:width]
            told = [(dice.choice(list(RULES)), self.some_tree(dice, width, dice.choice([0, 1])),
                     self.some_tree(dice, width, dice.choice([0, 1]))) for _ in range(rules)]
            tables = {name: self.some_bag(dice, width) for name in "abc"}
            made = [rule_made(rule) for rule in told]
            own = OwnStore(columns, tables, told, made)
            try:
                own.check_rules(tables)
            except Refusal as refusal:
                if type(refusal.error) is Breaks:
                    self.breaks(refusal.error.rule, refusal.row, Store, own.base(), *made)
                else:
                    self.refused(refusal.error, Store, own.base(), *made)
                continue
            return Store(own.base(), *made), own

    def some_tree(self, dice, width, depth):
        while True:
            tree = some_question(dice, depth)
            if width == 2 or "y" not in made_of(tree).columns:
                return tree

    def some_bag(self, dice, width):
        return {tuple(dice.choice(self.VALUES) for _ in range(width)): dice.choice([1, 1, 2, 3, MOST])
                for _ in range(dice.choice([0, 0, 1, 1, 2, 3]))}

    def some_row(self, dice, width, own):
        rows = own.rows(own.tables)
        if rows and dice.random() < 0.4:
            return dice.choice(rows)
        return tuple(dice.choice(self.VALUES) for _ in range(width if dice.random() < 0.95 else 3 - width))

    def some_name(self, dice):
        return dice.choice(["a", "b", "c"] * 8 + ["d", 5, None])

    def some_deed(self, dice, store, own):
        """A drawn call of the store and the same of its model, and a word for it."""
        width = len(own.columns)
        word = dice.choice(["put", "put", "put", "take", "take", "move", "set", "watch", "watch", "unwatch", "undo"])
        row, name, times = self.some_row(dice, width, own), self.some_name(dice), dice.choice(self.TIMES)
        if word in ("put", "take"):
            call = store.put if word == "put" else store.take
            mine = own.put if word == "put" else own.take
            if times == 1 and type(times) is int and dice.random() < 0.5:
                return word, lambda: call(name, row), lambda: mine(name, row, 1)
            return word, lambda: call(times=times, row=row, name=name), lambda: mine(name, row, times)
        if word == "move":
            other = self.some_name(dice)
            return word, lambda: store.move(row, name, other), lambda: own.move(row, name, other)
        if word == "set":
            bag = dice.choice([Bag(*self.some_bag(dice, dice.choice([1, width])).items()), Bag(), None])
            if dice.random() < 0.5:
                return word, lambda: store.set_bag(bag=bag, name=name), lambda: own.set_bag(name, bag)
            return word, lambda: store.__setitem__(name, bag), lambda: own.set_bag(name, bag)
        if word == "watch":
            tree, title = some_question(dice, dice.choice([0, 1, 2]), "abcd"), dice.choice(["p", "q", "r", "R", 5])
            made = made_of(tree)
            return word, lambda: store.watch(title, made), lambda: own.watch(title, tree, made)
        if word == "unwatch":
            title = dice.choice(["p", "q", "r", None])
            return word, lambda: store.unwatch(title), lambda: own.unwatch(title)
        return word, store.undo, own.undo

    def check_deed(self, dice, store, own, told):
        word, call, mine = self.some_deed(dice, store, own)
        try:
            expected = mine()
        except Refusal as refusal:
            told[word, type(refusal.error).__name__] = True
            if type(refusal.error) is Breaks:
                self.breaks(refusal.error.rule, refusal.row, call)
            else:
                self.refused(refusal.error, call)
        else:
            self.same(call(), expected)
            told[word, "ok"] = told.get((word, "ok"), 0) + 1
        self.assertEqual(shown(store), own.shown())

    def check_drawn(self, seed, many, rules):
        dice, told = random.Random(seed), {}
        for _ in range(many):
            store, own = self.some_store(dice, rules)
            for _ in range(30):
                self.check_deed(dice, store, own, told)
            for title in store.titles:
                self.assertEqual(store.watched(title), store.answer(made_of(own.watched[title])))
        return told

    def test_without_rules(self):
        told = self.check_drawn(211, 60, 0)
        for word in ("put", "take", "move", "set", "watch", "unwatch", "undo"):
            self.assertGreater(told[word, "ok"], 20)
        for key in (("put", "NoTable"), ("put", "BadRow"), ("put", "BadNumber"), ("put", "TooMany"), ("take", "NoRow"),
                    ("take", "BadNumber"), ("move", "NoRow"), ("move", "NoTable"), ("set", "BadStore"),
                    ("watch", "BadName"), ("watch", "NoTable"), ("watch", "NoColumn"), ("watch", "TooMany"),
                    ("unwatch", "NoTable"), ("undo", "NoDeed")):
            self.assertIn(key, told)

    def test_with_a_rule(self):
        told = self.check_drawn(223, 120, 1)
        for key in (("put", "Breaks"), ("take", "Breaks"), ("move", "Breaks"), ("set", "Breaks")):
            self.assertIn(key, told)

    def test_with_rules(self):
        told = self.check_drawn(227, 60, 3)
        self.assertIn(("put", "Breaks"), told)

    def test_trials_and_attempts(self):
        """Drawn deeds within one another: behind each block all is as it was ahead of it."""
        dice = random.Random(229)
        for _ in range(60):
            store, own = self.some_store(dice, dice.choice([0, 1]))
            for _ in range(4):
                self.check_deed(dice, store, own, {})
            self.check_block(dice, store, own, 3)

    def check_block(self, dice, store, own, depth):
        before, kept = own.snapshot(), shown(store)
        ending = dice.choice(["well", "error", "tried", "attempt"])

        def work(same):
            self.assertIs(same, store)
            for _ in range(dice.randrange(6)):
                self.check_deed(dice, store, own, {})
                if depth and dice.random() < 0.4:
                    self.check_block(dice, store, own, depth - 1)
            if ending in ("error", "attempt"):
                raise NoDeed()
            return 77
        if ending in ("well", "error"):
            try:
                with store.trial() as same:
                    work(same)
            except NoDeed:
                self.same(ending, "error")
        elif ending == "tried":
            self.same(store.tried(work), 77)
        else:
            self.refused(NoDeed(), store.attempt, work)
        own.restore(before)
        self.assertEqual([shown(store), shown(store)], [kept, own.shown()])


class RulesTest(StoreCase):
    """A deed is done exactly if each row keeps each rule."""

    def test_all_four_kinds(self):
        base = Base(("x",), a=Bag(((1,), 2)), b=Bag(((1,), 2)), c=Bag(((2,), 1)))
        cases = [
            (Within(A, B), lambda store: store.put("a", (1,)), (1,)),
            (Within(A, B), lambda store: store.take("b", (1,)), (1,)),
            (Within(A, B), lambda store: store.move((1,), "b", "c"), (1,)),
            (Within(A, B), lambda store: store.set_bag("a", Bag(((5,), 1), ((4,), 1))), (4,)),
            (Alike(A, B), lambda store: store.put("b", (9,)), (9,)),
            (Alike(A, B), lambda store: store.take("a", (1,), 2), (1,)),
            (Apart(A, C), lambda store: store.put("c", (1,)), (1,)),
            (Apart(A, C), lambda store: store.put("a", (2,), 5), (2,)),
            (Inside(A, B), lambda store: store.put("a", (None,)), (None,)),
            (Inside(A, B), lambda store: store.take("b", (1,), 2), (1,)),
        ]
        for rule, work, row in cases:
            store = Store(base, Inside(C, C), rule, Within(A, A))
            before = shown(store)
            self.breaks(rule, row, work, store)
            self.assertEqual(shown(store), before)
        store = Store(base, Inside(A, B), Apart(A, C), Within(C, C))
        store.put("a", (1,), 100)
        store.take("b", (1,))
        self.breaks(Inside(A, B), (1,), store.take, "b", (1,))
        self.same([store.deeds, str(store["b"])], [2, "1 of 1"])

    def test_the_first_rule_and_the_first_row(self):
        base = Base(("x",), a=Bag(), b=Bag(((1,), 1), ((2,), 1), ((None,), 1)))
        store = Store(base, Within(A, B), Apart(A % Below("x", 5), B % Below("x", 5)), Alike(A - A, Empty()))
        self.breaks(Apart(A % Below("x", 5), B % Below("x", 5)), (1,), store.set_bag, "a", Bag.of([(2,), (1,), (None,)]))
        self.breaks(Within(A, B), (7,), store.set_bag, "a", Bag.of([(1,), (7,), (8,), (None,), (None,)]))
        self.breaks(Within(A, B), (None,), store.set_bag, bag=Bag.of([(1,), (None,), (None,)]), name="a")
        self.same(store.set_bag("a", Bag.of([(None,)])), None)

    def test_errors_of_rules_ahead_of_the_broken_one(self):
        base = Base(("x",), a=Bag(((1,), MOST)), b=Bag(((1,), 1)))
        many, broken = Within(Empty(), A + B), Apart(B % LOW, B)
        self.refused(TooMany("times", MOST), Store, base, many)
        store = Store(base.with_bag("b", Bag()), many, broken)
        self.stays(store, TooMany("times", MOST), store.put, "b", (1,))
        self.breaks(broken, (0,), store.put, "b", (0,))
        store = Store(base.with_bag("b", Bag()), Apart(B, B), many)
        self.breaks(Apart(B, B), (1,), store.put, "b", (1,))
        full = Store(Base(("x",), a=FULL, b=Bag()), Within(Empty(), A + B))
        self.stays(full, TooMany("rows", 60), full.put, "b", (-1,))
        self.same([full.put("b", (59,), MOST - 1), full.deeds], [None, 1])
        self.stays(full, TooMany("times", MOST), full.put, "b", (59,))


class ErrorsTest(StoreCase):

    def test_put_and_take(self):
        store = small()
        store.watch("twice", A * 2)
        for value in any_values():
            if value not in ("a", "b"):
                for call in (store.put, store.take):
                    self.stays(store, NoTable(value), call, value, value, value)
            if not is_row(value, 1):
                for call in (store.put, store.take):
                    self.stays(store, BadRow("row"), call, "a", value, value)
                    self.stays(store, BadRow("row"), call, "a", value)
            if not is_integer(value) or value < 1:
                for call in (store.put, store.take):
                    self.stays(store, BadNumber(value), call, "a", (1,), value)
                    self.stays(store, BadNumber(value), call, times=value, row=(99,), name="b")
        for times in (MOST - 1, MOST, MOST + 1, 10 ** 60):
            self.stays(store, BadNumber(times), store.put, "a", (1,), times)
            self.stays(store, NoRow((1,)), store.take, "a", (1,), times)
        self.stays(store, NoRow((1,)), store.take, "a", (1,), 3)
        self.stays(store, NoRow((7,)), store.take, "b", (7,))
        self.stays(store, TooMany("times", MOST), store.put, "a", (1,), MOST - 2)
        store.unwatch("twice")
        self.breaks(Within(A, B), (1,), store.put, "a", (1,), MOST - 2)
        self.same(store.put("b", (1,), MOST - 3), None)
        self.stays(store, BadNumber(1), store.put, "b", (1,))

    def test_sixty_rows(self):
        store = Store(Base(("x",), a=FULL, b=Bag()), Within(A, A))
        store.watch("all", A + B)
        self.stays(store, TooMany("rows", 60), store.put, "a", (60,))
        self.stays(store, TooMany("rows", 60), store.put, "b", (60,))
        store.put("b", (59,))
        store.put("a", (59,), 5)
        store.unwatch("all")
        store.put("b", (60,))
        self.stays(store, TooMany("rows", 60), store.move, (60,), "b", "a")
        self.same([store.move((59,), "b", "a"), store.take("a", (0,))], [None, None])
        self.same(store.move((60,), "b", "a"), None)

    def test_move(self):
        store = small()
        for value in any_values():
            if value not in ("a", "b"):
                self.stays(store, NoTable(value), store.move, value, value, value)
                self.stays(store, NoTable(value), store.move, value, "a", value)
                self.stays(store, NoTable(value), store.move, other="zz", one=value, row=None)
            if not is_row(value, 1):
                self.stays(store, BadRow("row"), store.move, value, "b", "a")
        self.stays(store, NoRow((4,)), store.move, (4,), "a", "b")
        self.stays(store, NoRow((4,)), store.move, (4,), "a", "a")
        self.breaks(Within(A, B), (1,), store.move, (1,), "b", "a")
        self.same([store.move((1,), "a", "b"), str(store["a"]), str(store["b"])], [None, "1 of 1", "4 of 1, 1 of 4"])
        store = Store(Base(("x",), a=Bag(((1,), MOST)), b=Bag(((1,), MOST), ((2,), 1))))
        self.stays(store, BadNumber(1), store.move, (1,), "a", "b")
        self.stays(store, NoRow((2,)), store.move, (2,), "a", "b")
        self.same([store.move((1,), "a", "a"), store.deeds, store["a"].whole == MOST], [None, 1, True])

    def test_set(self):
        store = small()
        for value in any_values():
            if value not in ("a", "b"):
                self.stays(store, NoTable(value), store.set_bag, value, value)
                self.stays(store, NoTable(value), store.__setitem__, value, Bag())
            if not isinstance(value, Bag):
                self.stays(store, BadStore("bag"), store.set_bag, "a", value)
                self.stays(store, BadStore("bag"), store.__setitem__, "b", value)
        self.stays(store, BadStore("bag"), store.set_bag, "a", Bag(((1, 2), 1)))
        store["a"] = Bag(((4,), 1))
        self.same([str(store["a"]), store.set_bag("a", Bag()), str(store["a"]), store.deeds], ["1 of 4", None, "none", 2])
        store.watch("twice", B * 2)
        self.stays(store, TooMany("times", MOST), store.set_bag, "b", Bag(((1,), MOST)))

    def test_answers_and_titles(self):
        store = small()
        for value in any_values():
            if not isinstance(value, Question):
                self.stays(store, BadQuestion("question"), store.answer, value)
                self.stays(store, BadQuestion("question"), store.watch, "title", value)
            if value not in ("a", "x", "letters"):
                self.stays(store, BadName(value), store.watch, value, value)
            self.stays(store, NoTable(value), store.unwatch, value)
            self.stays(store, NoTable(value), store.watched, value)
        self.assertEqual([store.answer(A + B), store.answer(question=B - A)], [(A + B)(store.base), (B - A)(store.base)])
        for call in (store.answer, lambda question: store.watch("p", question)):
            self.stays(store, NoTable("c"), call, A % Missing("y") + C + Table("d"))
            self.stays(store, NoColumn("y"), call, A % Missing("y"))
            self.stays(store, TooMany("times", MOST), call, B * 9 * 9 * 9 * 9 * 9 * 9 * 9 * 9 * 9 * 9 * 9 * 9 * 9 * 9 * 9 * 9
                       * 9 * 9 * 9 * 9 * 9 * 9 * 9 * 9 * 9 * 9 * 9 * 9 * 9 * 9 * 9 * 9)

    def test_too_many_by_titles_ahead_of_rules(self):
        store = Store(Base(("x",), a=Bag(((1,), 1)), b=FULL), Within(A, B))
        store.watch("q", A + B)
        store.watch("p", A * 9)
        great = MOST // 9 + 1
        self.stays(store, TooMany("times", MOST), store.put, "a", (1,), great)
        self.stays(store, TooMany("rows", 60), store.put, "a", (77,))
        self.stays(store, TooMany("times", MOST), store.put, "a", (77,), great)
        store.undo()
        self.stays(store, TooMany("rows", 60), store.put, "a", (77,), great)
        store.undo()
        self.breaks(Within(A, B), (77,), store.put, "a", (77,), great)

    def test_undo(self):
        store = small()
        self.stays(store, NoDeed(), store.undo)
        calls = [("put", lambda: store.put("b", (1,))), ("take", lambda: store.take("a", (1,))),
                 ("move", lambda: store.move((1,), "a", "b")), ("set", lambda: store.set_bag("a", Bag())),
                 ("watch", lambda: store.watch("p", A)), ("watch", lambda: store.watch("p", A)),
                 ("unwatch", lambda: store.unwatch("p")), ("set", lambda: store.set_bag("a", Bag())),
                 ("move", lambda: store.move((4,), "b", "b"))]
        told = []
        for at, (_, call) in enumerate(calls):
            told.append(shown(store))
            self.same([call(), store.deeds], [None, at + 1])
        for at in range(len(calls) - 1, -1, -1):
            self.same(store.undo(), calls[at][0])
            self.assertEqual(shown(store), told[at])
        self.stays(store, NoDeed(), store.undo)


class ChangesTest(StoreCase):

    def test_each_kind_of_deed(self):
        base = Base(("x",), a=Bag(((1,), 2), ((None,), 1)), b=Bag(((1,), 1)))
        store = Store(base)
        store.watch("rest", A - B)
        self.same(list(store.changes()), [])
        store.watch("all", A + B)
        self.same(list(store.changes()), [])
        store.put("b", (1,), 5)
        self.same(list(store.changes()), [("all", (1,), 5), ("rest", (1,), -1)])
        store.put("b", (1,))
        self.same(list(store.changes()), [("all", (1,), 1)])
        store.take("a", (None,))
        self.same(list(store.changes()), [("all", (None,), -1), ("rest", (None,), -1)])
        store.move((1,), "b", "a")
        self.same(list(store.changes()), [])
        store["b"] = Bag(((9,), 2), ((None,), 1), ((-3,), 1))
        self.same(list(store.changes()), [("all", (-3,), 1), ("all", (1,), -6), ("all", (9,), 2), ("all", (None,), 1),
                                          ("rest", (1,), 3)])
        store.unwatch("all")
        self.same(list(store.changes()), [])
        self.same([store.undo(), len(list(store.changes()))], ["unwatch", 5])
        self.same([store.undo(), list(store.changes()), store.undo(), list(store.changes())],
                  ["set", [], "move", [("all", (None,), -1), ("rest", (None,), -1)]])

    def test_a_generator(self):
        store = small()
        store.watch("p", A)
        store.take("a", (1,))
        found = store.changes()
        self.same([next(found), list(found)], [("p", (1,), -1), []])
        other = store.changes()
        store.undo()
        self.same([list(other), list(store.changes())], [[], []])

    def test_a_title_that_is_watched_anew(self):
        store = small()
        store.watch("p", A)
        store.take("a", (1,))
        store.watch("p", B)
        self.same([list(store.changes()), str(store.watched("p"))], [[], "3 of 1, 1 of 4"])
        self.same([store.undo(), list(store.changes()), str(store.watched("p"))], ["watch", [("p", (1,), -1)], "1 of 1"])


class TrialTest(StoreCase):

    def test_a_trial_within_a_trial(self):
        store = small()
        store.watch("rest", B - A)
        before = shown(store)
        with store.trial() as same:
            self.assertIs(same, store)
            store.put("a", (4,))
            inner = shown(store)
            with self.assertRaises(Breaks):
                with store.trial():
                    self.same([store.undo(), store.undo(), store.titles, store.deeds], ["put", "watch", (), 0])
                    store.watch("other", A)
                    store.put("a", (9,))
            self.assertEqual(shown(store), inner)
            self.same(store.unwatch("rest"), None)
        self.assertEqual(shown(store), before)

    def test_tried_and_attempt(self):
        store = small()
        store.take("a", (1,))
        before = shown(store)
        self.same([store.tried(lambda same: [same.undo(), same.deeds, str(same["a"])]), store.deeds],
                  [["take", 0, "2 of 1"], 1])
        self.assertEqual(shown(store), before)
        for error in (KeyError("x"), NoDeed(), ZeroDivisionError()):
            def work(same, raised=error):
                same.undo()
                same.watch("p", A)
                same.put("b", (7,))
                raise raised
            for call in (store.tried, store.attempt):
                with self.assertRaises(type(error)) as told:
                    call(work=work)
                self.assertIs(told.exception, error)
                self.assertEqual(shown(store), before)
        self.same([store.attempt(lambda same: same.put("b", (7,))), store.deeds, store.undo()], [None, 2, "put"])
        self.same([store.attempt(lambda same: same.undo()), store.deeds], ["take", 0])
        self.breaks(Within(A, B), (9,), store.attempt, lambda same: [same.put("b", (5,)), same.put("a", (9,))])
        self.same([store.deeds, str(store["b"])], [0, "3 of 1, 1 of 4"])


class TwinTest(StoreCase):

    def test_twins_go_their_own_way(self):
        store = small()
        store.watch("rest", B - A)
        store.put("a", (4,))
        twin = store.twin()
        self.same([twin == store, twin is store, twin.deeds, list(twin.changes()), twin.titles],
                  [True, False, 0, [], ("rest",)])
        self.refused(NoDeed(), twin.undo)
        self.breaks(Within(A, B), (4,), twin.put, "a", (4,))
        twin.take("a", (4,))
        self.same([twin == store, str(twin.watched("rest")), str(store.watched("rest")), list(twin.changes())],
                  [False, "1 of 1, 1 of 4", "1 of 1", [("rest", (4,), 1)]])
        store.undo()
        self.same([twin == store, twin.deeds, store.deeds], [True, 1, 1])

    def test_equality(self):
        def made():
            base = small().base
            stores = [Store(base), Store(base, Within(A, B)), Store(base, Within(A, B), Within(A, B)),
                      Store(base, Within(A, B), Inside(A, B)), Store(base, Inside(A, B), Within(A, B)),
                      Store(base.with_bag("c", Bag())), Store(base.with_bag("a", Bag())),
                      Store(Base(("y",), a=base["a"], b=base["b"])), Store(base), Store(base), Store(base), Store(base)]
            stores[8].watch("p", A)
            stores[9].watch("q", A)
            stores[10].watch("p", A + Empty())
            stores[11].watch("p", A)
            stores[11].watch("q", A)
            return stores
        for at, one in enumerate(made()):
            for place, other in enumerate(made()):
                self.same([one == other, one != other], [at == place, at != place])
            for value in any_values():
                if not isinstance(value, Store):
                    self.same([one == value, one != value], [False, True])
        one, other = small(), small()
        one.put("b", (9,))
        one.take("b", (9,))
        self.same([one == other, one.deeds], [True, 2])

    def test_what_is_returned_belongs_to_the_caller(self):
        store = small()
        held = store.rules
        self.same([type(held), type(store.titles), type(list(store.changes()))], [tuple, tuple, list])


class PairsTest(StoreCase):

    def test_a_deed_is_done_exactly_if_each_row_keeps_each_pair(self):
        """The row of a deed is looked at in each pair of the rules, whatever kind they are."""
        dice = random.Random(233)
        told = [0, 0]
        while min(told) < 100:
            rule = (dice.choice(list(RULES)), some_question(dice, 1, "ab", False), some_question(dice, 1, "ab", False))
            counts = {"a": dice.randrange(3), "b": dice.randrange(3)}
            base = Base(("x",), **{name: Bag(*[((0,), times)] if times else []) for name, times in counts.items()})
            made = rule_made(rule)
            if not made(base):
                continue
            store = Store(base, made)
            counts["a"] += 1
            model = OwnStore(("x",), {name: {(0,): times} for name, times in counts.items()}, [rule], [made])
            holds = all(model.number(one, model.tables, (0,)) <= model.number(other, model.tables, (0,))
                        for one, other in pairs_told(rule))
            told[holds] += 1
            if holds:
                store.put("a", (0,))
                self.same(made(store.base), True)
            else:
                self.breaks(made, (0,), store.put, "a", (0,))


if __name__ == "__main__":
    unittest.main()
