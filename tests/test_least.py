"""Promises [2], [8], [12] and least.py."""

import itertools
import random
import unittest

import judging
from anything import Case, any_values
from judging import some_case
from rowcounts.errors import BadQuestion, BadRule, TooMany
from rowcounts.judge import Parted, Shown, never_more
from rowcounts.least import least_parted, shows_least
from rowcounts.look_judge import shows_parted
from rowcounts.questions import Empty, Question, Table
from rowcounts.rules import Alike, Apart, Inside, Rule, Within
from rowcounts.truths import Below, Equals, Has, Missing, UpTo
from test_judge import deep, with_conditions

A, B, C, D, E = (Table(name) for name in "abcde")

LOW, HIGH = Below("x", 5), ~Below("x", 5)


def partings(case, most):
    """All rows of kinds with counts of a sum up to a number that part the questions, from the least one on."""
    names = range(len(case.names))
    told = [row for row in itertools.product(range(most + 1), repeat=len(names)) if sum(row) <= most]
    for row in sorted(told, key=lambda row: (sum(row), row)):
        counts = dict(zip(case.names, row))
        for at, (kind, _) in enumerate(case.kinds):
            if case.parts(dict(kind), counts):
                yield (sum(row), at, row), Parted(kind, counts)


def least_told(case, most):
    """The own reckoning of least_parted, kind by kind."""
    found = list(partings(case, most))
    return min(found, key=lambda pair: pair[0])[1] if found else None


class LeastTest(Case):

    def check(self, case):
        one, other, *rules = case.made()
        verdict, expected = never_more(one, other, *rules), least_told(case, 12 if len(case.names) < 3 else 7)
        if verdict:
            self.assertIsNone(expected)
            self.assertIsNone(least_parted(one, other, *rules))
        elif expected is not None:
            found = least_parted(one, other, *rules)
            self.assertEqual(found, expected)
            self.same([found.row, found.counts], [expected.row, expected.counts])
            self.assertTrue(shows_parted(one, other, found, *rules))
        told = [paper for _, paper in itertools.islice(partings(case, 7), 40)]
        for paper in [*told, verdict, expected, Parted((), {}), Parted((("x", 0),), {"a": 1})]:
            if verdict or expected is not None:
                self.same(shows_least(one, other, paper, *rules), expected is not None and paper == expected)
        return expected is not None

    def check_drawn(self, seed, many, **how):
        dice = random.Random(seed)
        told = [self.check(some_case(dice, **how)) for _ in range(many)]
        self.assertGreater(min(told.count(True), told.count(False)), many // 10)

    def test_plain_ones(self):
        self.check_drawn(167, 120, tests=False)

    def test_plain_ones_with_rules(self):
        self.check_drawn(173, 60, tests=False, rules=1, depths=(0, 1, 2))
        self.check_drawn(179, 40, names="ab", tests=False, rules=2, depths=(0, 1, 2))

    def test_with_tests(self):
        self.check_drawn(181, 60, names="ab")

    def test_with_tests_and_rules(self):
        self.check_drawn(191, 40, names="ab", rules=1, depths=(0, 1, 2))

    def test_told_ones(self):
        told = [
            (A, B, [], (), {"a": 1, "b": 0}), (A + A, A, [], (), {"a": 1}),
            (A // LOW, A % HIGH, [], (("x", None),), {"a": 1}), (A, A % LOW, [], (("x", 5),), {"a": 1}),
            (A | B, A & B, [], (), {"a": 0, "b": 1}), (A + B, A | B, [], (), {"a": 1, "b": 1}),
            (A - B * 3, Empty(), [Inside(A, B)], (), {"a": 4, "b": 1}), (B, A, [Within(A, B)], (), {"a": 0, "b": 1}),
            (A, B * 0, [Within(A, C)], (), {"a": 1, "b": 0, "c": 1}), (A, Empty(), [Alike(A, C)], (), {"a": 1, "c": 1}),
            (A % LOW, B % LOW, [], (("x", 4),), {"a": 1, "b": 0}), (A, Empty(), [Apart(A, B)], (), {"a": 1, "b": 0}),
        ]
        for one, other, rules, row, counts in told:
            found = least_parted(one, other, *rules)
            self.same([found.row, found.counts, list(found.counts)], [row, counts, list(counts)])
            self.same(shows_least(one, other, Parted(row, counts), *rules), True)

    def test_the_sum_comes_ahead_of_the_kind_and_the_kind_ahead_of_the_counts(self):
        """Where x is below 5 it takes two rows, elsewhere one; then the first kind; then the first table."""
        one = (A - B) % HIGH + (A & B) % LOW
        self.same([least_parted(one, Empty()).row, least_parted(one, Empty()).counts], [(("x", 5),), {"a": 1, "b": 0}])
        one = A % LOW + B % HIGH
        self.same([least_parted(one, Empty()).row, least_parted(one, Empty()).counts], [(("x", 4),), {"a": 1, "b": 0}])
        one = A % HIGH + B % LOW
        self.same([least_parted(one, Empty()).row, least_parted(one, Empty()).counts], [(("x", 4),), {"a": 0, "b": 1}])

    def test_the_first_kind_is_that_of_the_judgement(self):
        """A rule's condition has kinds, too."""
        found = least_parted(A, Empty(), Within(B % Missing("y"), B))
        self.same([found.row, found.counts], [(("y", 0),), {"a": 1, "b": 0}])

    def test_twelve_and_thirteen(self):
        for most in (3, 8, 9):
            found = least_parted(A % Has(B), B * most)
            self.same(found.counts, {"a": most + 1, "b": 1})
        twelve = least_parted(A % Has(B), B * 9 + B)
        self.same(twelve.counts, {"a": 11, "b": 1})
        self.same(shows_least(A % Has(B), B * 9 + B, twelve), True)
        self.refused(TooMany("counts", 12), least_parted, A % Has(B), B * 9 + B + B)
        self.refused(TooMany("counts", 12), least_parted, A % Has(B), B * 9 * 9 * 9)
        self.refused(TooMany("counts", 12), least_parted, A % Has(B), B * 9 + B, Within(C, A), Within(B, C))
        rules = [Inside(A, B * 2 - C), Inside(B, C)]
        self.same(least_parted(A, B * 9, *rules).counts, {"a": 10, "b": 1, "c": 1})
        self.refused(TooMany("counts", 12), least_parted, A, B * 9 + B, *rules)

    def test_without_tables(self):
        for one in (Empty(), Empty() % LOW, Empty() + Empty()):
            self.assertIsNone(least_parted(one, Empty()))
            for paper in (Parted((), {}), Parted((("x", 4),), {}), None):
                self.same(shows_least(one, Empty(), paper), False)

    def test_far_ones_are_told_by_none(self):
        """Nothing is the Parted that least_parted tells, if it tells none."""
        for one, other in ((A % Has(B), B * 9 + B + B), (A % Has(B), B * 9 * 9)):
            for paper in (never_more(one, other), Parted((), {"a": 12, "b": 1}), None):
                self.same(shows_least(one, other, paper), False)

    def test_by_name(self):
        found = least_parted(other=B, one=A)
        self.assertEqual(found, Parted((), {"a": 1, "b": 0}))
        self.same(shows_least(paper=found, other=B, one=A), True)

    def test_dicts_belong_to_the_caller(self):
        found = least_parted(A, B)
        found.counts["a"] = 9
        self.same(least_parted(A, B).counts, {"a": 1, "b": 0})

    def test_great_judgements(self):
        three = Below("x", 1) & Equals("y", 0) & ~UpTo("z", -1)
        for one, other in (((A & B & C & D) % three, Empty()), (A % (three & Has(B & C)), D - A),
                           (A - (B | C) - D, A - (B + C + D))):
            found = least_parted(one, other)
            self.assertTrue(shows_least(one, other, found))

    def test_four_tables_of_which_the_least_sum_is_twelve(self):
        one = (A & B & C & D) - Empty()
        self.same(least_parted(one, Empty()).counts, dict.fromkeys("abcd", 1))
        self.same(least_parted(one * 3, D * 2).counts, dict.fromkeys("abcd", 1))


class PaperTest(Case):

    def test_any_paper(self):
        for value in any_values():
            self.same([shows_least(A, A + B, value), shows_least(A, B, value)], [False, False])
            self.same(shows_least(A, Empty(), value), type(value) is Parted and value == Parted((), {"a": 1}))
            self.same(shows_least(A, B, Parted(value, {"a": 1, "b": 0})), value == ())
            self.same(shows_least(A, B, Parted((), value)), False)

    def test_papers_bent_at_one_place(self):
        right = Parted((("x", 5),), {"a": 1, "b": 0})
        self.assertTrue(shows_least(A % HIGH, B, right))
        row, counts = right.row, right.counts
        for value in [Parted(row, {"a": True, "b": 0}), Parted(row, {"a": 1, "b": False}), Parted(row, {"a": 1}),
                      Parted(row, {"a": 1, "b": 0, "c": 0}), Parted(row, {"a": 2, "b": 0}), Parted((("x", 6),), counts),
                      Parted([("x", 5)], counts), Parted((["x", 5],), counts), Parted((("y", 5),), counts),
                      Parted((), counts), Parted((("x", None),), counts), (row, counts), Shown(row)]:
            self.same(shows_least(A % HIGH, B, value), False)
        self.same(shows_least(A % HIGH, B, Parted(row, {"b": 0, "a": 1})), True)


class WrongTest(Case):

    def refused_by_both(self, error, one, other, *rules):
        self.refused(error, least_parted, one, other, *rules)
        for paper in (None, Parted((), {"a": 1, "b": 0}), 5):
            self.refused(error, shows_least, one, other, paper, *rules)

    def test_any_value(self):
        for value in any_values():
            if not isinstance(value, Question):
                self.refused_by_both(BadQuestion("one"), value, value, value)
                self.refused_by_both(BadQuestion("other"), deep(11), value, value)
                self.refused(BadQuestion("one"), shows_least, one=value, other=value, paper=value)
            if not isinstance(value, Rule):
                self.refused_by_both(BadRule(0), A, A + B, value)
                self.refused_by_both(BadRule(1), deep(11), B, Within(A, B), value, value)

    def test_sizes(self):
        four = with_conditions(A, LOW, Equals("y", 0), UpTo("z", 0), Missing("x"))
        rules = [Within(A, B)] * 5
        self.refused_by_both(TooMany("tables", 4), A + B + C + D + E, four + deep(11), *rules)
        self.refused_by_both(TooMany("operators", 10), deep(11), four, *rules)
        self.refused_by_both(TooMany("conditions", 3), four, A, *rules)
        self.refused_by_both(TooMany("rules", 4), A, B, *rules)
        self.refused_by_both(TooMany("rules", 4), A % Has(B), (B + B) * 9, *rules)
        self.same(least_parted(deep(9), B * 1).counts, {"a": 1, "b": 0})
        self.same(least_parted(A + B, C + D).counts, {"a": 0, "b": 1, "c": 0, "d": 0})

    def test_the_own_reckoning(self):
        case = judging.Case(("table", "a"), ("*", 2, ("table", "b")), [("inside", ("table", "a"), ("table", "b"))])
        self.assertEqual(least_told(case, 5), Parted((), {"a": 3, "b": 1}))


if __name__ == "__main__":
    unittest.main()
