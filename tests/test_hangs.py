"""Promises [2], [4], [5], [12], [13] and hangs.py."""

import itertools
import random
import unittest

from anything import Case, any_values
from judging import conditions_in, kinds_told
from rowcounts.errors import BadQuestion, NoTable, TooMany
from rowcounts.hangs import gain, harms, helps, loss, never_any, plays_part, same_rows
from rowcounts.judge import Shown, never_more
from rowcounts.questions import Empty, Question, Table
from rowcounts.truths import Below, Equals, Has, Missing, UpTo
from test_judge import deep, with_conditions
from trees import leaves_of, made_of, number_of, size_of, some_question

A, B, C, D = (Table(name) for name in "abcd")

LOW = Below("x", 5)

NAMED = (helps, harms, plays_part, gain, loss)


def some_small(dice, names="ab", tests=True, most=3):
    """A drawn tree whose numbers are small, so that small counts tell all."""
    while True:
        tree = some_question(dice, dice.choice([1, 2, 3]), names, tests)
        if 0 < size_of(tree) <= most and leaves_of(tree)[0] and len(conditions_in(tree)) <= 3:
            if not any(great(part) for part in walk(tree)):
                return tree


def walk(tree):
    yield tree
    for part in tree[1:]:
        if type(part) is tuple:
            yield from walk(part)


def great(part):
    return part[0] == "*" and part[1] > 3


def steps(tree, name, most=6, further=3):
    """For small counts of all kinds, and some rows more in a table: the number of them, that ahead and that behind."""
    names = sorted(leaves_of(tree)[0])
    for row, _ in kinds_told(conditions_in(tree).values()):
        for told in itertools.product(range(most + 1), repeat=len(names)):
            counts = dict(zip(names, told))
            ahead = number_of(tree, dict(row), counts)
            for more in range(1, further + 1):
                yield more, ahead, number_of(tree, dict(row), {**counts, name: counts[name] + more})


def numbers(tree, most=6):
    names = sorted(leaves_of(tree)[0])
    for row, _ in kinds_told(conditions_in(tree).values()):
        for told in itertools.product(range(most + 1), repeat=len(names)):
            yield number_of(tree, dict(row), dict(zip(names, told)))


class DrawnTest(Case):

    def check(self, tree, name):
        question, told = made_of(tree), list(steps(tree, name))
        helped = all(behind >= ahead for _, ahead, behind in told)
        harmed = all(behind <= ahead for _, ahead, behind in told)
        found = [helps(question, name), harms(question, name), plays_part(question, name)]
        self.same(found, [helped, harmed, not (helped and harmed)])
        for call, sign in ((gain, 1), (loss, -1)):
            times = call(question, name)
            wide = told if times not in (None, 9) else list(steps(tree, name, 24, 2))
            rates = [-(-sign * (behind - ahead) // more) for more, ahead, behind in wide]
            self.same(times, max([0, *rates]) if max([0, *rates]) <= 9 else None)

    def test_plain_ones(self):
        dice = random.Random(193)
        for _ in range(80):
            tree = some_small(dice, tests=False)
            self.check(tree, dice.choice(sorted(leaves_of(tree)[0])))

    def test_with_tests(self):
        dice = random.Random(197)
        for _ in range(80):
            tree = some_small(dice)
            self.check(tree, dice.choice(sorted(leaves_of(tree)[0])))

    def test_never_any(self):
        dice = random.Random(199)
        told = []
        for _ in range(200):
            tree = some_small(dice)
            told.append(never_any(made_of(tree)))
            self.same(told[-1], not any(numbers(tree)))
        self.assertGreater(min(told.count(True), told.count(False)), 20)

    def test_same_rows(self):
        dice = random.Random(211)
        told = []
        for _ in range(250):
            one, other = some_small(dice, "ab", True, 2), some_small(dice, "ab", True, 2)
            if len(conditions_in(one) | conditions_in(other)) <= 3:
                both = ("+", one, other)
                names = sorted(leaves_of(both)[0])
                expected = all((number_of(one, dict(row), dict(zip(names, counts))) > 0)
                               == (number_of(other, dict(row), dict(zip(names, counts))) > 0)
                               for row, _ in kinds_told(conditions_in(both).values())
                               for counts in itertools.product(range(6), repeat=len(names)))
                told.append(same_rows(made_of(one), made_of(other)))
                self.same(told[-1], expected)
        self.assertGreater(min(told.count(True), told.count(False)), 20)


class ToldTest(Case):

    def test_helps_and_harms(self):
        told = [
            (A, True, False, True), (A - B, True, False, True), (B - A, False, True, True), (A & B, True, False, True),
            (A | B, True, False, True), (A * 0, True, True, False), ((A - A) + B, True, True, False),
            (A % LOW, True, False, True), (B // Has(A), False, True, True), (B % Has(A), True, False, True),
            (A // Has(A), True, True, False), ((A - B) + (B - A), False, False, True), (B % ~Has(A), False, True, True),
            ((A & B) - A, True, True, False), (A % (LOW & ~LOW), True, True, False), (A - A * 2, True, True, False),
            (A * 2 - A, True, False, True), (B // (Has(A) | ~Has(A)), True, True, False),
        ]
        for question, *expected in told:
            self.same([call(question, "a") for call in (helps, harms, plays_part)], expected)
            self.same([call(name="a", question=question) for call in (helps, harms, plays_part)], expected)

    def test_gain_and_loss(self):
        told = [
            (A, 1, 0), (A - B, 1, 0), (B - A, 0, 1), (A + A - B, 2, 0), (A * 9, 9, 0), (A * 9 + A, None, 0),
            (B - A * 9, 0, 9), (B - (A * 9 + A), 0, None), (A * 0, 0, 0), (B % Has(A), None, 0), (B // Has(A), 0, None),
            (A % Has(A - B), None, 0), ((A + A) * 9, None, 0), ((A - B) + (B - A), 1, 1), (A & B, 1, 0), (A | B, 1, 0),
            (A % Has(A), 1, 0), ((A - B * 9) * 8, 8, 0), (A * 5 - (A - B) * 4, 5, 0), (A * 3 & (A + B), 3, 0),
            ((A * 3 | B) + A * 4, 7, 0), (B * 7 - (A & B) * 6, 0, 6), (A % LOW + A // LOW, 1, 0), (A % ~LOW * 4, 4, 0),
        ]
        for question, *expected in told:
            self.same([gain(question, "a"), loss(question, "a")], expected)
            self.same([gain(name="a", question=question), loss(name="a", question=question)], expected)

    def test_a_question_that_has_the_names_of_new_tables(self):
        new, newer = Table("new"), Table("newer")
        self.same([gain(new - newer, "new"), loss(new - newer, "newer"), helps(new & newer, "new")], [1, 1, True])
        self.same([gain(new * 2 - Table("newest"), "new"), harms(newer - new, "new")], [2, True])
        three = (new + newer) - Table("newest")
        self.same([gain(three, "new"), loss(three, "newest"), plays_part(three, "newer")], [1, 1, True])

    def test_never_any(self):
        told = [Empty(), A - A, (A & B) - A, A * 0, A % Has(Empty()), A // Has(A), A % (LOW & ~LOW), (A - B) & (B - A)]
        self.same([never_any(question) for question in told], [True] * len(told))
        told = [A, A - B, A % LOW, A // LOW, A // (LOW | ~LOW), A % Missing("x"), A % Has(B), A - B * 9 * 9 * 9]
        self.same([never_any(question) for question in told], [False] * len(told))
        self.same(never_any(question=A), False)

    def test_same_rows(self):
        told = [(A + B, A | B), (A, A * 9), (A % Has(B), A & B), (A // Has(A), Empty()), (A, A + (A & B)),
                (A % LOW % Missing("x"), Empty()), (A, A), (A * 2 - A, A)]
        for one, other in told:
            self.same([same_rows(one, other), same_rows(other=one, one=other)], [True, True])
        told = [(A, B), (A - B, A // Has(B)), (A, A % LOW), (A + B, A), (A & B, A), (A, Empty())]
        for one, other in told:
            self.same([same_rows(one, other), same_rows(other, one)], [False, False])


class SizesTest(Case):

    def all_refused(self, error, question, name="a"):
        for call in NAMED:
            self.refused(error, call, question, name)
        self.refused(error, never_any, question)

    def test_each_size_and_one_beyond(self):
        three = with_conditions(A, LOW, Equals("y", 0), UpTo("z", -1))
        jumps = A % (LOW & Equals("y", 0) & UpTo("z", -1) & Has((A - B) & C))
        for question, times in ((A + B + C, 1), (deep(5), 1), (three, 1), (jumps, None)):
            self.same([helps(question, "a"), harms(question, "a"), plays_part(question, "a"), never_any(question)],
                      [True, False, True, False])
            self.same([gain(question, "a"), loss(question, "a")], [times, 0])
        self.all_refused(TooMany("tables", 3), A + B + C + D)
        self.all_refused(TooMany("operators", 5), deep(6))
        self.all_refused(TooMany("conditions", 3), A % (LOW & Equals("y", 0) & UpTo("z", -1) & Missing("x")))

    def test_the_order_of_sizes(self):
        four = A % (LOW & Equals("y", 0) & UpTo("z", -1) & Missing("x"))
        self.all_refused(TooMany("tables", 3), four + B + C + D + A + A)
        self.all_refused(TooMany("operators", 5), four * 1 * 1 * 1 * 1 * 1)

    def test_a_table_at_many_places(self):
        """With a table more such a question has more operators than a judgement may have."""
        question = ((A | B) - (A & C)) + (A - C)
        self.same(question.size, 5)
        self.same([helps(question, "a"), harms(question, "a"), plays_part(question, "a")], [False, False, True])
        self.same([gain(question, "a"), loss(question, "a")], [2, 1])
        question = ((A | B) - (A & C)) - A
        self.same([helps(question, "a"), harms(question, "a"), plays_part(question, "a")], [False, True, True])
        six = (A + A) + (A + A) + (A + A)
        self.same([six.size, gain(six, "a"), loss(six, "a")], [5, 6, 0])

    def test_sizes_of_same_rows(self):
        self.same([same_rows(deep(4), deep(4)), same_rows(A + B, C + D), same_rows(deep(8), A)], [True, False, True])
        self.refused(TooMany("operators", 10), same_rows, deep(5), deep(4))
        self.refused(TooMany("operators", 10), same_rows, A, deep(9))
        self.refused(TooMany("tables", 4), same_rows, A + B, C + D + Table("e"))
        self.refused(TooMany("conditions", 3), same_rows, with_conditions(A, LOW, Missing("x")),
                     with_conditions(A, Missing("y"), Missing("z")))
        self.refused(TooMany("size", 40), same_rows, deep(20), deep(20))
        self.refused(TooMany("size", 40), same_rows, A + B + C + D + Table("e"), deep(36))
        self.refused(TooMany("operators", 10), same_rows, deep(19), deep(19))

    def test_great_questions(self):
        dice = random.Random(223)
        for _ in range(25):
            tree = some_small(dice, "abc", True, 5)
            question = made_of(tree)
            for name in question.names:
                told = [helps(question, name), harms(question, name), plays_part(question, name)]
                self.same(told[2], not (told[0] and told[1]))
                self.same([gain(question, name) == 0, loss(question, name) == 0], [told[1], told[0]])


class WrongTest(Case):

    def test_any_question(self):
        for value in any_values():
            if not isinstance(value, Question):
                for call in NAMED:
                    self.refused(BadQuestion("question"), call, value, "a")
                    self.refused(BadQuestion("question"), call, name=value, question=value)
                self.refused(BadQuestion("question"), never_any, value)
                self.refused(BadQuestion("one"), same_rows, value, value)
                self.refused(BadQuestion("one"), same_rows, value, A)
                self.refused(BadQuestion("other"), same_rows, deep(40), value)

    def test_any_name(self):
        for call in NAMED:
            for value in any_values():
                if value != "a":
                    self.refused(NoTable(value), call, A - B, value)
                    self.refused(NoTable(value), call, deep(6) + B + C + D, value)
            self.refused(NoTable("x"), call, A % LOW, "x")
            self.refused(NoTable("d"), call, A + B, "d")

    def test_what_is_passed_stays(self):
        question = (A - B) % Has(C)
        for call in NAMED:
            call(question, "a")
        self.same(str(question), "( ( a - b ) where has c )")

    def test_with_the_judge(self):
        """Whether rows more help is a judgement with a new table."""
        for question in (A - B, B - A, A % Has(A - B), B // Has(A)):
            more = question.filled({"a": A + D})
            self.same(helps(question, "a"), isinstance(never_more(question, more), Shown))
            self.same(harms(question, "a"), isinstance(never_more(more, question), Shown))


if __name__ == "__main__":
    unittest.main()
