"""Promises [2], [5], [8], [12] and shortest.py."""

import itertools
import random
import unittest

from anything import Case, any_values, is_integer
from rowcounts.errors import BadCounts, BadQuestion, TooMany
from rowcounts.judge import Agreed, alike
from rowcounts.questions import Empty, Question, Table
from rowcounts.shortest import explains, shortest
from rowcounts.truths import Below, Equals, Has, Missing, UpTo
from test_judge import deep, with_conditions
from test_truths import are_counts
from trees import made_of, number_of, some_question, size_of, text_of

A, B, C, D = (Table(name) for name in "abcd")

LOW = Below("x", 5)


def short_trees(names):
    """The trees of all short questions, in their order."""
    bare = [("empty",), *(("table", name) for name in names)]
    single = [(sign, one, other) for sign in "+&|-" for one in bare for other in bare]
    double = [(sign, one, other) for sign in "+&|-" for one, other in
              [*itertools.product(bare, single), *itertools.product(single, bare)]]
    return sorted([*bare, *single, *double], key=lambda tree: (size_of(tree), text_of(tree)))


def first_that_tells(names, samples):
    for tree in short_trees(names):
        if all(number_of(tree, {}, counts) == number for counts, number in samples):
            return tree
    return None


def are_samples(value):
    return [at for at, item in enumerate(value) if not is_sample(item) or sorted(item[0]) != sorted(value[0][0])]


def is_sample(item):
    return (type(item) is tuple and len(item) == 2 and are_counts(item[0]) and len(item[0]) <= 3
            and is_integer(item[1]) and item[1] >= 0)


class OrderTest(Case):

    def test_the_order_of_short_questions(self):
        texts = [text_of(tree) for tree in short_trees("ax")]
        self.same(texts[:6], ["a", "empty", "x", "( a & a )", "( a & empty )", "( a & x )"])
        self.same(texts[3 + 36], "( ( a & a ) & a )")
        self.same(len(short_trees("abc")), 4 + 4 * 16 + 2 * 4 * 4 * 64)


class ShortestTest(Case):

    def check(self, question, judged=60):
        """No short question ahead of what is told is alike; a going through counts, and the judge, tell so."""
        found = shortest(question)
        values = [{"x": x} for x in (None, 4, 5)]
        counts = [dict(zip(question.names, told)) for told in
                  itertools.product([0, 1, 2, 3, 7, 1000], repeat=len(question.names))]
        for tree in short_trees(question.names):
            if text_of(tree) == str(found):
                self.assertIsInstance(alike(question, found), Agreed)
                return found
            if all(question.often(row, told) == number_of(tree, {}, told) for told in counts for row in values):
                self.assertFalse(alike(question, made_of(tree)), f"{question} {text_of(tree)}")
            elif judged:
                judged -= 1
                self.assertFalse(alike(question, made_of(tree)), f"{question} {text_of(tree)}")
        self.assertIsNone(found)
        return found

    def test_told_ones(self):
        told = [
            (A, "a"), (Empty(), "empty"), (A * 1, "a"), (A * 0, "empty"), (A * 2, "( a + a )"), (A * 3, "( ( a + a ) + a )"),
            (A + B - B, "a"), (A - (A - B), "( a & b )"), ((A & B) + (A | B), "( a + b )"), ((A & B) - A, "empty"),
            ((A - B) - C, "( ( a - b ) - c )"), (A - (B + C), "( ( a - b ) - c )"), (A + (B - A), "( a | b )"),
            (A % LOW + A // LOW, "a"), (A % Has(A), "a"), (A // Has(A), "empty"), (A % (LOW & ~LOW), "empty"),
            (A % Has(B), None), (A * 4, None), (A % LOW, None), (A * 3 - B, None), (A // Has(B), None),
            (B - (B - A), "( a & b )"), ((C - B) - A, "( ( c - a ) - b )"), ((A | B) | C, "( ( a | b ) | c )"),
            (B + A * 0, "b"), ((A - B) + (A & B), "a"), ((A | B) - B, "( a - b )"), (A % Missing("x") * 0 + B, "b"),
        ]
        for question, text in told:
            found = shortest(question=question)
            self.same(None if found is None else str(found), text)
            self.check(question, 8)

    def test_drawn_ones(self):
        dice = random.Random(227)
        told = []
        while len(told) < 40:
            tree = some_question(dice, dice.choice([2, 3]), dice.choice(["ab", "abc"]), dice.random() < 0.4)
            question = made_of(tree)
            if 1 < question.size <= 8 and len(question.conditions) <= 2 and "y" not in question.columns:
                told.append(self.check(question, 5))
        self.assertGreater(min(told.count(None), len(told) - told.count(None)), 8)

    def test_questions_that_few_counts_tell_apart(self):
        told = [(A - B * 9 * 9 * 9, None), ((A - B * 9 * 9 * 9) * 0, "empty"), (A & B * 9 * 9 * 9, None),
                (A | (B - A * 9 * 9 * 9), None), (A - (B - A * 9 * 9) * 9, None), ((A * 9 - B * 8) & (B * 9 - A * 8), None),
                (A - (A - B * 9 * 9) * 9 * 9, None), (A + (A - B * 9 * 9 * 9 * 9), None)]
        for question, text in told:
            found = self.check(question, 5)
            self.same(None if found is None else str(found), text)

    def test_only_the_table_names_of_the_question(self):
        self.same(str(shortest(C - (C - B))), "( b & c )")
        self.same(str(shortest(Table("zz") * 1)), "zz")
        self.same(str(shortest(Empty() + Empty())), "empty")
        self.same(str(shortest(Table("x") * 0)), "empty")

    def test_each_size_and_one_beyond(self):
        three = with_conditions(A, LOW, Equals("y", 0), UpTo("z", -1))
        self.same([str(shortest(A + B + C)), str(shortest(deep(8))), shortest(three)], ["( ( a + b ) + c )", "a", None])
        self.same(str(shortest(with_conditions(deep(4), LOW, Equals("y", 0), UpTo("z", -1)) * 0)), "empty")
        self.refused(TooMany("tables", 3), shortest, A + B + C + D)
        self.refused(TooMany("operators", 8), shortest, deep(9))
        self.refused(TooMany("conditions", 3), shortest, A % (LOW & Equals("y", 0) & UpTo("z", -1) & Missing("x")))
        four = A % (LOW & Equals("y", 0) & UpTo("z", -1) & Missing("x"))
        self.refused(TooMany("tables", 3), shortest, four + B + C + D + A + A + A + A + A)
        self.refused(TooMany("operators", 8), shortest, four + deep(8))

    def test_great_questions(self):
        test = LOW & Equals("y", 0) & ~UpTo("z", -1)
        self.same(shortest((A % test) - ((B & C) | (A - C))), None)
        self.same(str(shortest(((A - B) - C) + (A & (B + C)) + B * 0)), "a")
        self.same(str(shortest(((A % test) + (A // test)) & (C + (B - C)))), str(shortest(A & (B | C))))

    def test_any_value(self):
        for value in any_values():
            if not isinstance(value, Question):
                self.refused(BadQuestion("question"), shortest, value)

    def test_what_is_passed_stays(self):
        question = A - (A - B)
        shortest(question)
        self.same(str(question), "( a - ( a - b ) )")


class ListTest(Case):
    """Both functions against the list of all short questions, those with equal numbers put together."""

    NAMES = ((), ("a",), ("x", "zz"), ("a", "ab"), ("a", "b", "c"), ("a", "ab", "abc"))

    def firsts(self, names):
        """A dict from the numbers at many counts to the text of the first short question that tells them."""
        rows = [dict(zip(names, told)) for told in itertools.product([0, 1, 2, 3, 5, 11], repeat=len(names))]
        found = {}
        for tree in short_trees(names):
            found.setdefault(tuple(number_of(tree, {}, row) for row in rows), text_of(tree))
        return rows, found

    def test_each_short_question(self):
        dice = random.Random(313)
        for names in self.NAMES:
            rows, firsts = self.firsts(names)
            some = dice.sample(list(firsts.items()), min(40, len(firsts)))
            for numbers, text in some:
                self.same(str(explains(list(zip(rows, numbers)))), text)
            trees = short_trees(names)
            for tree in dice.sample(trees, min(40, len(trees))):
                question = made_of(tree)
                if question.names == names:
                    self.same(str(shortest(question)), firsts[tuple(number_of(tree, {}, row) for row in rows)])

    def test_calls_one_after_another(self):
        """Calls with other names and with the same ones do not disturb one another."""
        dice = random.Random(317)
        made = {names: self.firsts(names) for names in self.NAMES}
        calls = []
        for names in self.NAMES * 3:
            rows, firsts = made[names]
            numbers, text = dice.choice(list(firsts.items()))
            calls += [(explains, list(zip(rows, numbers)), text), (explains, [(row, 7919 ** 2) for row in rows], "None")]
            question = made_of(dice.choice(short_trees(names)))
            calls += [(shortest, question, str(shortest(question))), (shortest, question * 9 + question * 8, None)]
        told = [str(call(value)) for call, value, _ in calls]
        self.same([one for one, call in zip(told, calls) if call[2]], [call[2] for call in calls if call[2]])
        places = list(range(len(calls)))
        dice.shuffle(places)
        for at in places + places[::-1]:
            call, value, _ = calls[at]
            found = call(value)
            self.same(str(found), told[at])
            self.assertIsNot(found if found is not None else call, call(value))

    def test_drawn_samples(self):
        dice = random.Random(331)
        for _ in range(120):
            names = dice.choice(self.NAMES)
            counts = [{name: dice.choice([0, 1, 2, 3, 4, 10 ** 30]) for name in names} for _ in range(dice.randrange(4))]
            samples = [(told, dice.choice([0, 1, 2, sum(told.values()), max(told.values(), default=3)])) for told in counts]
            expected = first_that_tells(sorted(names) if samples else [], samples)
            self.same(str(explains(samples)), str(None if expected is None else text_of(expected)))


class ExplainsTest(Case):

    def check(self, samples):
        names = sorted(samples[0][0]) if samples else []
        expected = first_that_tells(names, samples)
        found = explains(samples)
        self.same(None if found is None else str(found), None if expected is None else text_of(expected))
        self.assertEqual([found, found], [explains(tuple(samples)), explains(samples=list(samples))])
        return expected is not None

    def test_told_ones(self):
        self.same(str(explains([({"a": 2, "b": 1}, 1), ({"a": 1, "b": 2}, 0)])), "( a - b )")
        self.same([explains([({"a": 1}, 9)]), str(explains([])), str(explains(()))], [None, "empty", "empty"])
        self.same([str(explains([({}, 0)])), explains([({}, 1)]), str(explains([({"x": 0}, 0)]))], ["empty", None, "empty"])
        self.same([str(explains([({"a": 0}, 0)])), str(explains([({"a": 1}, 1)])), str(explains([({"a": 1}, 2)])),
                   str(explains([({"a": 1}, 3)]))], ["a", "a", "( a + a )", "( ( a + a ) + a )"])

    def test_drawn_ones(self):
        dice = random.Random(229)
        told = []
        for _ in range(60):
            names = dice.choice(["a", "ab", "abc", "bxz"])
            tree = dice.choice(short_trees(names)) if dice.random() < 0.7 else None
            samples = []
            for _ in range(dice.randrange(7)):
                counts = {name: dice.choice([0, 1, 2, 3, 10 ** 6, 10 ** 59]) for name in names}
                samples.append((counts, dice.choice(range(5)) if tree is None else number_of(tree, {}, counts)))
            told.append(self.check(samples))
        self.assertGreater(min(told.count(True), told.count(False)), 3)

    def test_the_names_of_pairs_in_any_order(self):
        samples = [({"b": 1, "a": 5}, 4), ({"a": 1, "b": 3}, 0)]
        self.same(str(explains(samples)), "( a - b )")
        self.same(samples, [({"b": 1, "a": 5}, 4), ({"a": 1, "b": 3}, 0)])

    def test_any_samples(self):
        for value in any_values():
            if type(value) not in (list, tuple):
                self.refused(BadCounts(None), explains, value)
            elif are_samples(value):
                self.refused(BadCounts(are_samples(value)[0]), explains, value)
            else:
                explains(value)

    def test_any_sample(self):
        right = ({"a": 1}, 1)
        for value in any_values():
            self.refused(BadCounts(1), explains, [right, value, right, value])
            self.refused(BadCounts(0), explains, (value, right))
            for sample in ((value, 1), ({"a": value}, 1), ({"a": 1}, value)):
                if is_sample(sample) and sorted(sample[0]) == ["a"]:
                    explains([sample])
                    explains([right, sample])
                else:
                    if not is_sample(sample):
                        self.refused(BadCounts(0), explains, [sample, right])
                    self.refused(BadCounts(2), explains, [right, right, sample, None])

    def test_names(self):
        four = dict.fromkeys("abcd", 1)
        self.refused(BadCounts(0), explains, [(four, 1)])
        self.refused(BadCounts(1), explains, [({"a": 1}, 1), (four, 1)])
        self.refused(BadCounts(1), explains, [({"a": 1}, 1), ({"b": 1}, 1)])
        self.refused(BadCounts(1), explains, [({"a": 1}, 1), ({"a": 1, "b": 1}, 1)])
        self.refused(BadCounts(1), explains, [({"a": 1, "b": 1}, 1), ({"a": 1}, 1)])
        self.refused(BadCounts(1), explains, [({}, 0), ({"a": 1}, 1)])
        for name in ("A", "null", "abcdefghi", "", 5, None, "a1"):
            self.refused(BadCounts(0), explains, [({name: 1}, 1)])
        self.refused(BadCounts(0), explains, [[{"a": 1}, 1]])
        self.refused(BadCounts(0), explains, [({"a": 1}, 1, 1)])
        self.refused(BadCounts(0), explains, [({"a": -1}, 1)])
        self.refused(BadCounts(0), explains, [({"a": 1}, -1)])
        self.refused(BadCounts(0), explains, [({"a": True}, 1)])
        self.refused(BadCounts(0), explains, [({"a": 1}, True)])


if __name__ == "__main__":
    unittest.main()
