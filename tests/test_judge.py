"""Promises [2], [7] to [12] and judge.py."""

import random
import unittest

import judging
from anything import Case, any_values
from judging import RULES, count_of_leaves, some_case
from rowcounts.bags import Bag
from rowcounts.bases import Base
from rowcounts.errors import BadQuestion, BadRule, TooMany
from rowcounts.judge import Agreed, Leaf, Parted, Shown, Split, Verdict, alike, never_more
from rowcounts.questions import Empty, Question, Table
from rowcounts.rules import Alike, Apart, Inside, Rule, Within
from rowcounts.truths import Below, Equals, Has, Missing, UpTo
from trees import size_of, some_question

A, B, C, D, E = (Table(name) for name in "abcde")

LOW, EVEN, HIGH, GONE = Below("x", 5), Equals("y", 0), UpTo("z", -1), Missing("x")


def deep(size, name="a"):
    """A question with so many operators, over one table."""
    question = Table(name)
    for _ in range(size):
        question = question * 1
    return question


def with_conditions(question, *conditions):
    for condition in conditions:
        question = question % condition
    return question


class JudgeCase(Case):

    def check(self, case):
        """What never_more and alike tell is right by the own reckoning, and no small counts disagree."""
        one, other, *rules = case.made()
        found, last = never_more(one, other, *rules), never_more(other, one, *rules)
        self.check_verdict(case, found)
        self.check_verdict(case.turned(), last)
        both = alike(one, other, *rules)
        if isinstance(found, Parted) or isinstance(last, Parted):
            self.assertEqual(type(both), Parted)
            self.check_verdict(case if isinstance(found, Parted) else case.turned(), both)
        else:
            self.assertEqual(type(both), Agreed)
            self.check_verdict(case, both.first)
            self.check_verdict(case.turned(), both.last)
        self.same(bool(both), bool(found) and bool(last))
        self.assertEqual([never_more(one, other, *rules), alike(one, other, *rules)], [found, both])
        return found

    def check_verdict(self, case, found):
        self.assertIn(type(found), (Shown, Parted))
        if isinstance(found, Parted):
            self.assertTrue(case.is_parted(found), (vars(found), vars(case)))
            self.assertIn(found.row, [row for row, _ in case.kinds])
            self.assertLessEqual(max(found.counts.values()), 10 ** 20)
            for scale in (2, 7, 10 ** 9):
                counts = {name: scale * count for name, count in found.counts.items()}
                self.assertTrue(case.parts(dict(found.row), counts))
        else:
            self.assertTrue(case.is_shown(found), vars(case))
            self.assertIsNone(next(case.small_partings(3), None), vars(case))


class DrawnTest(JudgeCase):

    def check_drawn(self, seed, many, **how):
        dice = random.Random(seed)
        told = [self.check(some_case(dice, **how)) for _ in range(many)]
        shown = sum(isinstance(found, Shown) for found in told)
        self.assertGreater(min(shown, many - shown), many // 10)

    def test_plain_ones(self):
        self.check_drawn(79, 250, tests=False)

    def test_plain_ones_with_rules(self):
        self.check_drawn(83, 120, tests=False, rules=1)
        self.check_drawn(89, 80, tests=False, rules=2, depths=(0, 1, 2))

    def test_with_tests(self):
        self.check_drawn(97, 150, names="ab")

    def test_with_tests_and_rules(self):
        self.check_drawn(101, 80, names="ab", rules=1, depths=(0, 1, 2))

    def test_with_four_tables(self):
        self.check_drawn(103, 40, names="abcd", tests=False, rules=1)

    def test_alike_ones(self):
        """Questions that are alike, put together as two texts of the same."""
        dice = random.Random(107)
        for _ in range(60):
            part = some_question(dice, 1, "ab")
            whole = ("-", part, ("-", part, ("table", "c")))
            case = judging.Case(whole, ("&", part, ("table", "c")))
            if case.fits():
                self.assertIsInstance(self.check(case), Shown)


class ToldTest(Case):

    def test_that_hold(self):
        told = [
            (A, A), (Empty(), A), (A & B, A), (A, A | B), (A - B, A), ((A - B) - C, A - (B + C)),
            (A & (B + C), (A & B) + (A & C)), (A - (A - B), A & B), (A + B, (A | B) + (A & B)), (A % LOW, A),
            (A // Has(B), A - B), (A, A % Has(A)), (A % ~LOW, A // LOW), (A * 2, A + A), (Empty(), Empty()),
            (A * 0, Empty()), (A % Has(Empty()), Empty()), ((A - B) & (B - A), Empty()), (A % (LOW & ~LOW), Empty()),
            (A, A % LOW + A // LOW), (A // (LOW | ~LOW), A % GONE), (A % GONE, A // (LOW | ~LOW)),
        ]
        for one, other in told:
            self.assertIsInstance(never_more(one, other), Shown, f"{one} {other}")

    def test_that_do_not_hold(self):
        told = [
            (A, B), (A, Empty()), (A + A, A), ((A & B) + (A & C), A & (B + C)), (A - B, A // Has(B)), (A, A % LOW),
            (A, A % LOW + A % ~LOW), (A * 9, A * 8), (A | B, A), (A, A - B), (A % Has(B), (B + B) * 9),
            (A % GONE, A % LOW + A % ~LOW + B),
        ]
        for one, other in told:
            self.assertIsInstance(never_more(one, other), Parted, f"{one} {other}")

    def test_under_rules(self):
        told = [
            (A, C, [Within(A, B), Within(B, C)]), (A, A - B, [Apart(A, B)]), (A - B, Empty(), [Within(A, B)]),
            (A % Has(B), A, [Inside(A, B)]), (A, A % Has(B), [Inside(A, B)]), (A + C, B + C, [Alike(A, B)]),
            (A, Empty(), [Apart(A, A)]), (A % LOW, B, [Within(A % LOW, B)]), (A, B, [Within(A * 2, B + A)]),
            (A & B, Empty(), [Inside(A, B - A), Apart(A, B)]),
        ]
        for one, other, rules in told:
            self.assertIsInstance(never_more(one, other, *rules), Shown, f"{one} {other}")
            self.assertIsInstance(never_more(one + D, other, *rules), Parted, f"{one} {other}")
        self.assertIsInstance(never_more(A, B, Inside(A, B)), Parted)
        self.assertIsInstance(never_more(A, C, Within(A, B)), Parted)
        self.assertIsInstance(never_more(B, A, Within(A, B)), Parted)
        self.assertIsInstance(never_more(A, B, Within(A % LOW, B)), Parted)

    def test_the_tables_are_those_of_all_questions(self):
        found = never_more(B, A, Within(C, D))
        self.same([list(found.counts), found.row], [["a", "b", "c", "d"], ()])
        found = never_more(B * 0 + A, A * 0, Within(C % LOW, D))
        self.same([list(found.counts), [column for column, _ in found.row]], [["a", "b", "c", "d"], ["x"]])
        self.same(sorted(never_more(A, A % Has(B // EVEN)).counts), ["a", "b"])

    def test_the_parted_of_one_and_other_comes_first(self):
        for one, other in ((A, B), (B, A), (A - B, B - A), (A % LOW, A // LOW)):
            found = alike(one, other)
            self.assertEqual(found, never_more(one, other))
            self.assertNotEqual(found, never_more(other, one))
        self.assertEqual(alike(A & B, A), never_more(A, A & B))
        self.assertEqual(alike(A, A & B), never_more(A, A & B))

    def test_great_counts(self):
        """A row must stand in a more than 9 ** 8 times as often as in b."""
        found = never_more(A % Has(B), B * 9 * 9 * 9 * 9 * 9 * 9 * 9 * 9)
        self.assertIsInstance(found, Parted)
        self.assertGreater(found.counts["a"], 9 ** 8 * found.counts["b"])
        self.assertLessEqual(found.counts["a"], 10 ** 20)
        chain = (A - B * 9 * 9) & (B - C * 9 * 9) & (C - D * 9)
        found = never_more(chain, Empty())
        self.assertGreater(found.counts["a"], 81 * 81)
        self.assertLessEqual(found.counts["a"], 10 ** 20)

    def test_scale_alone_never_parts(self):
        self.assertIsInstance(never_more(A * 9 * 9 * 9, A * 9 * 9 * 9 + B), Shown)
        self.assertIsInstance(never_more(A * 9 * 9 * 9 * 9, A * 9 * 9 * 9 * 8), Parted)

    def test_one_tree_for_each_kind(self):
        found = never_more(A % LOW % EVEN % HIGH, A)
        self.same([type(found.trees), len(found.trees)], [tuple, 27])
        self.same(len(never_more(A, A).trees), 1)
        self.assertEqual(never_more(Empty(), Empty()), Shown((Leaf((1,)),)))

    def test_trees_are_not_too_great(self):
        dice = random.Random(109)
        most = 0
        for _ in range(200):
            case = some_case(dice, "abcd", False)
            whole = judging.Case(case.one, ("|", case.other, case.one))
            if whole.fits():
                trees = never_more(*whole.made()).trees
                most = max([most, *(count_of_leaves(tree) for tree in trees)])
        self.assertGreater(most, 8)
        self.assertLess(most, 3001)

    def test_by_name(self):
        self.assertEqual(never_more(other=B, one=A), never_more(A, B))
        self.assertEqual(alike(other=A + B, one=B + A), alike(B + A, A + B))

    def test_dicts_belong_to_the_caller(self):
        found = never_more(A, B)
        found.counts["a"] = found.counts["zz"] = None
        self.same(sorted(never_more(A, B).counts), ["a", "b"])
        self.assertGreater(never_more(A, B).counts["a"], 0)
        rule, one, other = Within(A, B), A - C, B % LOW
        never_more(one, other, rule)
        self.assertEqual([str(rule), str(one), str(other)], ["within a ; b", "( a - c )", "( b where x < 5 )"])


class PapersTest(Case):

    def test_papers(self):
        self.check_paper(Shown, "trees")
        self.check_paper(Agreed, "first", "last")
        self.check_paper(Parted, "row", "counts")
        self.check_paper(Split, "form", "yes", "no")
        self.check_paper(Leaf, "weights")

    def test_truth(self):
        for value in any_values():
            self.same([bool(Shown(value)), bool(Agreed(value, value)), bool(Parted(value, value))], [True, True, False])
            self.same([bool(Split(value, value, value)), bool(Leaf(value))], [True, True])

    def test_classes(self):
        for paper in (Shown, Agreed, Parted):
            self.assertTrue(issubclass(paper, Verdict))
        for paper in (Split, Leaf):
            self.assertFalse(issubclass(paper, Verdict))
        told = [Shown(1), Leaf(1), Agreed(1, 2), Parted(1, 2), Split(1, 2, 3)]
        for at, one in enumerate(told):
            for place, other in enumerate(told):
                self.same([one == other, one != other], [at == place, at != place])

    def test_trees_in_trees(self):
        def made(last):
            return Shown((Split((1, 0), Leaf((1,)), Split((0, 1), Leaf((2,)), Leaf((last,)))),))
        self.same([made(1) == made(1), made(1) == made(2), made(1) == made(True)], [True, False, False])


class SizesTest(Case):

    def sized(self, error, one, other, *rules):
        """Both functions raise the error; without one they answer."""
        for call in (never_more, alike):
            if error is None:
                self.assertIsInstance(call(one, other, *rules), Verdict)
            else:
                self.refused(error, call, one, other, *rules)

    def test_tables(self):
        error = TooMany("tables", 4)
        self.sized(None, A + B, C + D)
        self.sized(error, A + B, C + D + E)
        self.sized(None, A, B, Within(C, D))
        self.sized(error, A, B, Within(C, D), Within(D, E))
        self.sized(error, A, B * 0 + C, Apart(D, E))
        self.sized(error, A, B, Inside(C, D % Has(E)))

    def test_operators(self):
        error = TooMany("operators", 10)
        self.sized(None, deep(10), A)
        self.sized(error, deep(11), A)
        self.sized(None, deep(5), deep(5))
        self.sized(error, A, deep(11))
        self.sized(error, deep(5), deep(6))
        self.sized(None, deep(5), A, Within(deep(3), deep(2)))
        self.sized(error, deep(5), A, Within(deep(3), deep(3)))

    def test_operators_of_pairs(self):
        """Alike has its questions twice, Apart one more operator, Inside two."""
        error = TooMany("operators", 10)
        self.sized(None, A, B, Alike(deep(3), deep(2)))
        self.sized(error, A, B, Alike(deep(3), deep(3)))
        self.sized(None, A, B, Apart(deep(5), deep(4)))
        self.sized(error, A, B, Apart(deep(5), deep(5)))
        self.sized(None, A, B, Inside(deep(4), deep(4)))
        self.sized(error, A, B, Inside(deep(5), deep(4)))
        self.sized(None, A % Has(deep(8)), A)
        self.sized(error, A % Has(deep(9)), A)

    def test_conditions(self):
        error = TooMany("conditions", 3)
        self.sized(None, with_conditions(A, LOW, EVEN, HIGH, LOW), B)
        self.sized(error, with_conditions(A, LOW, EVEN, HIGH, GONE), B)
        self.sized(None, with_conditions(A, LOW, EVEN), A % HIGH, Within(A % LOW, B))
        self.sized(error, with_conditions(A, LOW, EVEN), A % HIGH, Within(A % GONE, B))
        self.sized(error, A % (LOW & EVEN & ~HIGH & Has(A % GONE)), B)

    def test_rules(self):
        error = TooMany("rules", 4)
        self.sized(None, A, B, *[Within(A, B)] * 4)
        self.sized(error, A, B, *[Within(A, B)] * 5)
        self.sized(None, A, B, Alike(A, B), Alike(A, B))
        self.sized(error, A, B, Alike(A, B), Within(A, B), Alike(A, B))
        self.sized(None, A, B, Alike(A, B), Apart(A, B), Inside(A, B))

    def test_the_order_of_sizes(self):
        five = A + B + C + D + E
        wide = with_conditions(deep(11), LOW, EVEN, HIGH, GONE)
        rules = [Within(A, B)] * 5
        self.sized(TooMany("tables", 4), five, wide, *rules)
        self.sized(TooMany("operators", 10), A, wide, *rules)
        self.sized(TooMany("conditions", 3), with_conditions(A, LOW, EVEN, HIGH, GONE), B, *rules)
        self.sized(TooMany("rules", 4), with_conditions(A, LOW, EVEN, HIGH), B, *rules)

    def test_great_judgements(self):
        """All sizes at once: each is answered, and rightly."""
        test = LOW & EVEN & ~HIGH & Has((A & B) - (C & D))
        told = [
            (A % test, B - (C | D)), ((A & B) | (C & D), ((A | C) & (B | D)) + ((A | D) - (B - C))),
            (((A - B) - C) - D, A - (B | C | D) - (A & B)), ((A % LOW) - (B % EVEN), (C % HIGH) | (D & A & B) - A),
            (A % (Has(A - B) & Has(B - C) & Has(C - D)), B + C),
        ]
        for one, other in told:
            self.assertIsInstance(never_more(one, other), Verdict)
            self.assertIsInstance(alike(one, other), Verdict)


class WrongTest(Case):

    def test_any_value(self):
        for call in (never_more, alike):
            for value in any_values():
                if not isinstance(value, Question):
                    self.refused(BadQuestion("one"), call, value, value, value)
                    self.refused(BadQuestion("one"), call, value, A)
                    self.refused(BadQuestion("other"), call, A, value, value)
                    self.refused(BadQuestion("other"), call, deep(11), value)
                    self.refused(BadQuestion("other"), call, one=A, other=value)
                if not isinstance(value, Rule):
                    self.refused(BadRule(0), call, A, B, value)
                    self.refused(BadRule(2), call, deep(11), E, Within(A, B), Apart(A, B), value, value)

    def test_the_document_s_order(self):
        self.refused(BadRule(1), never_more, A, B, Within(A, B), (A, B))
        self.refused(BadRule(0), never_more, deep(11), B + C + D + E, A)


def some_base(dice, names, most=3):
    """A drawn base with columns x and y, of few rows and small numbers."""
    bags = {name: Bag(*[((dice.choice([None, -3, -2, 0, 1, 2]), dice.choice([None, -2, 0, 1])), dice.randint(1, most))
                        for _ in range(dice.randrange(5))]) for name in names}
    return Base.of(("x", "y"), bags)


class FactsTest(Case):

    def test_what_holds_for_all_bases_holds_on_drawn_ones(self):
        dice = random.Random(233)
        kept = parted = 0
        while kept < 150 or parted < 150:
            case = some_case(dice, dice.choice(["ab", "abc"]), rules=dice.choice([0, 0, 1]), depths=(0, 1, 2))
            one, other, *rules = case.made()
            found, both = never_more(one, other, *rules), alike(one, other, *rules)
            for _ in range(8):
                base = some_base(dice, case.names)
                if all(rule(base) for rule in rules):
                    kept += bool(found)
                    parted += not one(base) <= other(base)
                    self.assertTrue(not found or one(base) <= other(base))
                    self.assertTrue(not both or one(base) == other(base))

    def test_a_parted_is_a_base_of_one_row(self):
        dice = random.Random(239)
        told = 0
        while told < 60:
            case = some_case(dice, "ab", rules=dice.choice([0, 1]), depths=(0, 1, 2))
            one, other, *rules = case.made()
            found = never_more(one, other, *rules)
            if isinstance(found, Parted):
                values = {"x": 7, "y": 7, **dict(found.row)}
                row = (values["x"], values["y"])
                base = Base.of(("x", "y"), {name: Bag((row, count)) if count else Bag()
                                            for name, count in found.counts.items()})
                self.same([rule.broken_at(base) for rule in rules], [None] * len(rules))
                self.same([one(base) <= other(base), Within(one, other).broken_at(base)], [False, row])
                told += 1

    def test_rules_that_all_bases_keep_change_nothing(self):
        dice = random.Random(113)
        for _ in range(40):
            case = some_case(dice, "ab", depths=(1, 2))
            if case.size <= 7:
                one, other = case.made()
                self.same(bool(never_more(one, other, Within(A & B, A))), bool(never_more(one, other)))

    def test_each_rule_follows_from_itself(self):
        dice = random.Random(127)
        for word, rule in RULES.items():
            for _ in range(12):
                one, other = (judging.made_of(some_question(dice, 1, "ab")) for _ in "ab")
                made = rule(one, other)
                if sum(p.size + q.size for p, q in made.pairs) <= 5:
                    for p, q in made.pairs:
                        self.assertIsInstance(never_more(p, q, made), Shown, word)

    def test_sizes_of_trees(self):
        """The own reckoning of sizes is that of the questions."""
        dice = random.Random(131)
        for _ in range(50):
            tree = some_question(dice, 3)
            if size_of(tree) <= 40:
                self.same(judging.made_of(tree).size, size_of(tree))


if __name__ == "__main__":
    unittest.main()
