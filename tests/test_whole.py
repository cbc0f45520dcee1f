"""Promises [1], [6] to [9], [13] and [14] over the whole program: what is judged holds wherever answers are told."""

import random
import unittest

from anything import Case
from judging import RULES, rule_made, some_case
from rowcounts.bags import Bag
from rowcounts.bases import Base
from rowcounts.books import Book
from rowcounts.desk import Desk
from rowcounts.errors import Breaks, TooMany
from rowcounts.judge import Parted, alike, never_more
from rowcounts.least import least_parted
from rowcounts.plans import Plan
from rowcounts.questions import Table
from rowcounts.reader import read_base, read_plan, read_store
from rowcounts.rooms import pieces, room, told_apart
from rowcounts.rules import Within
from rowcounts.shortest import shortest
from rowcounts.stores import Store
from rowcounts.streams import joined, stream
from rowcounts.texts import base_text, plan_text, store_text
from test_rewrites import RIGHT
from trees import made_of, some_question

VALUES = [None, -1, 0, 1, 2, 5]


def some_base(dice, names="abcd", rows=6):
    bags = {name: Bag(*[((dice.choice(VALUES), dice.choice(VALUES)), dice.choice([1, 1, 2, 3, 7]))
                        for _ in range(dice.randrange(rows))]) for name in names}
    return Base.of(("x", "y"), bags)


def kept_part(base, rules):
    """The base with the rows alone at which it keeps some rules."""
    rows = [row for row in base.rows() if all(rule(base.only(row)) for rule in rules)]
    return Base.of(base.columns, {name: Bag(*[(row, times) for row, times in base[name] if row in rows])
                                  for name in base})


class JudgedTest(Case):

    def test_what_is_never_more_is_so_everywhere(self):
        dice = random.Random(269)
        many = 0
        while many < 60:
            case = some_case(dice, rules=dice.choice([0, 0, 1]), depths=(1, 2))
            one, other, *rules = case.made()
            if not never_more(one, other, *rules):
                continue
            many += 1
            for _ in range(4):
                base = kept_part(some_base(dice), rules)
                self.assertTrue(one(base) <= other(base))
                self.check_streams(one, other, base)
                store = Store(base, *rules)
                store.watch("one", one)
                store.watch("other", other)
                for _ in range(4):
                    self.some_deed(dice, store)
                    self.assertTrue(store.watched("one") <= store.watched("other"))
                    self.assertTrue(store.answer(one) <= store.answer(other))
                    self.assertEqual([store.watched("one"), Within(one, other)(store.base)], [one(store.base), True])

    def check_streams(self, one, other, base):
        numbers = dict(stream(other, base))
        for row, times in stream(one, base):
            self.assertLessEqual(times, numbers.get(row, 0))
            counts, values = base.numbers(row), base.values_of(row)
            self.same([one.often(values, counts), other.often(values, counts)], [times, numbers[row]])

    def some_deed(self, dice, store):
        row, name, other = (dice.choice(VALUES), dice.choice(VALUES)), dice.choice("abcd"), dice.choice("abcd")
        try:
            if row in store[name] and dice.random() < 0.5:
                store.take(name, row) if dice.random() < 0.5 else store.move(row, name, other)
            else:
                store.put(name, row, dice.choice([1, 2]))
        except Breaks:
            pass

    def test_alike_questions(self):
        dice = random.Random(271)
        many = plain = 0
        while many < 60 or plain < 20:
            case = some_case(dice, "ab", tests=dice.choice([True, False]), depths=(1, 2))
            one, other = case.made()
            if not alike(one, other):
                continue
            many += 1
            base = some_base(dice)
            self.assertEqual([one(base), list(stream(one, base))], [other(base), list(stream(other, base))])
            self.assertEqual(base.filled({"a": one, "b": other})["a"], base.filled({"a": one, "b": other})["b"])
            store = Store(base)
            store.watch("one", one)
            store.watch("other", other)
            for _ in range(3):
                self.some_deed(dice, store)
                self.assertEqual(store.watched("one"), store.watched("other"))
                told = [[change[1:] for change in store.changes() if change[0] == title] for title in ("one", "other")]
                self.same(*told)
            if one.is_plain and other.is_plain and one.names == other.names:
                plain += 1
                self.same([piece.form for piece in pieces(one)], [piece.form for piece in pieces(other)])
                self.same(room(one).rank, room(other).rank)
            plan = Plan(one, *RIGHT[:5])
            plan.turn(other)
            plan.shrink()
            self.assertEqual(plan.question(base), one(base))

    def test_what_follows_is_kept(self):
        dice = random.Random(277)
        many = 0
        while many < 40:
            told = [(dice.choice(list(RULES)), some_question(dice, dice.choice([0, 1])), some_question(dice, 0))
                    for _ in range(dice.randrange(1, 3))]
            rules = [rule_made(rule) for rule in told]
            asked = rule_made((dice.choice(list(RULES)), some_question(dice, 1), some_question(dice, 1)))
            try:
                found = Book(*rules).follows(asked)
            except TooMany:
                continue
            store = Store(kept_part(some_base(dice), rules), *rules)
            if isinstance(found, Parted):
                self.same(asked(self.base_of(found, 1)), False)
                self.same(Book(*rules).keeps(self.base_of(found, 3)), True)
                continue
            many += 1
            self.same([Desk(store)(f"follows {asked}"), asked(store.base)], ["yes", True])
            for _ in range(6):
                self.some_deed(dice, store)
                self.same([asked(store.base), Book(*rules).keeps(store.base)], [True, True])

    def base_of(self, parted, times):
        """The base of one row that a Parted tells, so many times as often."""
        columns = tuple(column for column, _ in parted.row) or ("x",)
        row = tuple(value for _, value in parted.row) or (0,)
        return Base.of(columns, {name: Bag(*[(row, times * count)] if count else [])
                                 for name, count in parted.counts.items()})

    def test_a_parted_is_a_base_of_one_row_and_so_are_its_multiples(self):
        dice = random.Random(281)
        many = 0
        while many < 80:
            case = some_case(dice, rules=dice.choice([0, 1, 2]), depths=(0, 1, 2))
            one, other, *rules = case.made()
            found = never_more(one, other, *rules)
            if found:
                self.same(least_parted(one, other, *rules), None)
                continue
            many += 1
            for paper in (found, least_parted(one, other, *rules)):
                for times in (1, 2, 7, 10 ** 8):
                    base = self.base_of(paper, times)
                    self.same([Book(*rules).keeps(base), one(base) <= other(base), len(list(base.rows()))], [True, False, 1])
                    store = Store(base, *rules)
                    store.watch("one", one)
                    self.same(store.watched("one") <= store.answer(other), False)
                    row = next(base.rows())
                    told = [dict(stream(question, base)).get(row, 0) for question in (one, other)]
                    self.same([told[0] > told[1], Within(one, other).broken_at(base)], [True, row])

    def test_the_scale_goes_through_everything(self):
        dice = random.Random(283)
        for _ in range(100):
            question, base = made_of(some_question(dice, 3, "abcd")), some_base(dice)
            times = dice.choice([2, 3, 9])
            scaled = Base.of(base.columns, {name: base[name] * times for name in base})
            self.assertEqual([question(scaled), list(stream(question, scaled))],
                             [question(base) * times, [(row, times * many) for row, many in stream(question, base)]])


class LedTest(Case):

    def test_counters_lead_two_stores_the_same_way(self):
        """Rows with the same values of the kept forms have the same answers behind all further rows."""
        dice = random.Random(293)
        told = [0, 0]
        while min(told) < 40:
            tree = some_question(dice, dice.choice([1, 2]), "abc", False)
            question = made_of(tree)
            names = question.names
            if question.size > 10:
                continue
            kept = [piece.form for piece in room(question).kept]
            counts, others = ({name: dice.randrange(4) for name in "abc"} for _ in range(2))
            lead = [[sum(f * row[name] for f, name in zip(form, names)) for form in kept] for row in (counts, others)]
            stores = [Store(Base.of(("x",), {name: Bag(*[((1,), row[name])] if row[name] else []) for name in "abc"}))
                      for row in (counts, others)]
            for store in stores:
                store.watch("kept", question)
            is_led = lead[0] == lead[1]
            told[is_led] += 1
            later = told_apart(question, counts, others)
            self.same(later is None, is_led)
            if later is not None:
                for store in stores:
                    for name in names:
                        if later.counts[name]:
                            store.put(name, (1,), later.counts[name])
                self.same([store.watched("kept").often((1,)) for store in stores], [later.one, later.other])
                continue
            for _ in range(6):
                name, times = dice.choice("abc"), dice.choice([1, 2, 9])
                for store in stores:
                    store.put(name, (1,), times)
                self.same(*[store.watched("kept").often((1,)) for store in stores])
            turned = [[change[1:] for change in store.changes()] for store in stores]
            self.same(*turned)


class ReadTest(Case):

    def test_what_is_read_back_tells_the_same(self):
        dice = random.Random(307)
        for _ in range(40):
            base, question = some_base(dice), made_of(some_question(dice, 2, "abcd"))
            again = read_base(base_text(base))
            self.assertEqual([question(again), list(stream(question, again))], [question(base), list(stream(question, base))])
            store = Store(base, Within(Table("a") & Table("b"), Table("b")))
            store.watch("asked", question)
            self.assertEqual(read_store(store_text(store)).watched("asked"), question(base))
            self.same(Desk(store)("ask " + str(question)), str(question(base)))
            plan = read_plan(plan_text(Plan(question, *RIGHT[:6])))
            plan.shrink()
            self.assertEqual(plan.question(base), question(base))

    def test_a_short_one_tells_the_same(self):
        dice = random.Random(311)
        many = 0
        while many < 25:
            question = made_of(some_question(dice, 2, "abc", False))
            found = shortest(question) if question.size <= 8 else None
            if found is not None:
                many += 1
                base = some_base(dice)
                self.assertEqual([found(base), bool(alike(found, question))], [question(base), True])
                self.same(list(joined(stream(found, base), stream(question, base))), list(stream(question * 2, base)))


if __name__ == "__main__":
    unittest.main()
