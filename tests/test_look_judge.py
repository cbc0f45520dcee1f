"""Promises [2], [7] to [12] and look_judge.py."""

import random
import unittest

from anything import Case, any_values
from judging import some_case
from rowcounts.errors import BadQuestion, BadRule, TooMany
from rowcounts.judge import Agreed, Leaf, Parted, Shown, Split, alike, never_more
from rowcounts.look_judge import shows_agreed, shows_parted, shows_shown
from rowcounts.questions import Empty, Question, Table
from rowcounts.rules import Apart, Rule, Within
from rowcounts.truths import Below, Equals, Missing, UpTo
from test_judge import deep, with_conditions

A, B, C, D, E = (Table(name) for name in "abcde")

LOW = Below("x", 5)

LOOKS = (shows_shown, shows_agreed, shows_parted)


def bent_numbers(told):
    """Tuples of numbers, bent at one place, and of other kinds."""
    for at, number in enumerate(told):
        for other in (number + 1, number - 1, -number, 2 * number + 3, bool(number), None, str(number)):
            yield told[:at] + (other,) + told[at + 1:]
        yield told[:at] + told[at + 1:]
    yield from [told + (0,), told + (1,), (0,) + told, list(told), None, ()]


def bent_trees(tree, dice):
    """Trees that are bent at one place."""
    yield from [None, (), Shown((tree,)), [tree], Split(tree, tree, tree)]
    if type(tree) is Leaf:
        yield from [Leaf(weights) for weights in bent_numbers(tree.weights)]
        yield from [Split((0,) * many, tree, tree) for many in (1, 2, 3)]
        return
    yield from [tree.yes, tree.no, Split(tree.form, tree.no, tree.yes), Leaf(tree.form), Leaf(())]
    yield from [Split(form, tree.yes, tree.no) for form in bent_numbers(tree.form)]
    yield from [Split(tree.form, bent, tree.no) for bent in some_of(bent_trees(tree.yes, dice), dice)]
    yield from [Split(tree.form, tree.yes, bent) for bent in some_of(bent_trees(tree.no, dice), dice)]


def some_of(values, dice):
    values = list(values)
    return dice.sample(values, min(len(values), 12))


def bent_showns(shown, dice):
    trees = shown.trees
    for at, tree in enumerate(trees):
        for bent in some_of(bent_trees(tree, dice), dice):
            yield Shown(trees[:at] + (bent,) + trees[at + 1:])
        yield Shown(trees[:at] + trees[at + 1:])
        yield Shown(trees[:at] + trees[at:at + 1] + trees[at:])
    yield from [Shown(list(trees)), Shown(()), Shown(trees[::-1]), Shown(None), Agreed(shown, shown), trees]


def bent_parteds(parted, dice):
    row, counts = parted.row, parted.counts
    for name, count in counts.items():
        for other in (count + 1, 0, -1, 3 * count + 1, True, None, 10 ** 30, 10 ** 30 + 1, str(count)):
            yield Parted(row, {**counts, name: other})
        yield Parted(row, {key: counts[key] for key in counts if key != name})
        yield Parted(row, {**{key: counts[key] for key in counts if key != name}, "zz": count})
    for at, (column, value) in enumerate(row):
        for pair in ((column, 0), (column, 10 ** 60), (column, None), (column, True), (column, "0"), [column, value],
                     (column,), (column, value, 0), ("zz", value), column, (None, value)):
            yield Parted(row[:at] + (pair,) + row[at + 1:], counts)
        yield Parted(row[:at] + row[at + 1:], counts)
    yield from [Parted(list(row), counts), Parted(row + (("zz", 1),), counts), Parted(row[::-1], counts),
                Parted(row, {**counts, "zz": 0}), Parted(row, list(counts)), Parted(dict(row), counts),
                Parted(row, dict(reversed(counts.items()))), Parted(row, {**counts, 5: 5}), (row, counts)]


def chain(splits, last):
    """A tree of so many Splits in a row, on one table, whose leaves are right of anything plain that holds."""
    tree = last(splits)
    for at in range(splits, 0, -1):
        tree = Split((1,), tree, Leaf((1,) + (0,) * (at - 1) + (1,)))
    return tree


def winding(splits, sides, depth=0):
    """A tree of so many Splits in a row, on one table, of which the next one stands in yes or no, by turns of sides."""
    leaf = Leaf((0,) * (1 + depth) + (1,))
    if depth == splits:
        return leaf
    deeper, beside = winding(splits, sides, depth + 1), Leaf((0,) * (2 + depth) + (1,))
    is_yes = sides[depth % len(sides)] == "y"
    return Split((-1,), deeper, beside) if is_yes else Split((-1,), beside, deeper)


def bush(leaves, above=()):
    """A tree of so many leaves that is as flat as can be, on one table; each leaf is right of a question within itself."""
    if leaves == 1:
        return Leaf((0,) * (1 + len(above)) + (1,))
    return Split((1,), bush(leaves - leaves // 2, (*above, 1)), bush(leaves // 2, (*above, 0)))


class ToldTest(Case):

    def test_plain_ones(self):
        tree = Split((1, -1), Leaf((0, 1, 0, 1)), Leaf((1, 0, 0, 1)))
        self.same([shows_shown(A, A + B, Shown((Leaf((0, 1, 1)),))), shows_shown(A - B, A, Shown((tree,)))], [True, True])
        self.same(shows_shown(A, A + B, Shown((Leaf((0, 2, 2)),))), True)
        self.same([shows_shown(A, A + B, Shown((Leaf(weights),))) for weights in [
            (1, 1, 1), (0, 1, 0), (0, 0, 1), (0, 1), (0, 1, 1, 0), (0, True, 1), [0, 1, 1], (0, -1, -1)]], [False] * 8)

    def test_with_rules(self):
        rules = [Within(A, B), Within(B, C)]
        right = Shown((Leaf((0, 0, 0, 1, 1, 1)),))
        self.same([shows_shown(A, C, right, *rules), shows_shown(A, C, right, *rules[::-1]),
                   shows_shown(A, C, right, *rules[:1]), shows_shown(C, A, right, *rules)], [True, True, False, False])
        self.same(shows_shown(A, C, Shown((Leaf((0, 0, 0, 1, 0, 1)),)), *rules), False)

    def test_an_open_question_of_a_rule(self):
        """All questions must be forms in a leaf, also those of rules that have no weight."""
        leaf = Leaf((0, 1, 0, 1))
        self.same(shows_shown(A, A + B, Shown((leaf,)), Within(A, B)), True)
        self.same(shows_shown(A, A + B, Shown((leaf,)), Within(A - B, B)), False)
        inner = Leaf((0, 1, 0, 0, 1))
        self.same(shows_shown(A, A + B, Shown((Split((1, -1), inner, inner),)), Within(A - B, B)), True)
        self.same(shows_shown(A, A + B, Shown((Split((2, -2), inner, inner),)), Within(A - B, B)), True)
        self.same(shows_shown(A, A + B, Shown((Split((2, -1), inner, inner),)), Within(A - B, B)), False)

    def test_leaves_of_the_branch_alone(self):
        """In a branch that holds nowhere no question need be a form."""
        clash = Split((-1, 0), Leaf((0, 1, 0, 1)), Leaf((0, 1, 0, 1)))
        self.same(shows_shown(A, A + B, Shown((clash,))), True)
        nowhere = Leaf((1, 0, 0, 1))
        for form, yes in (((0, 0), Leaf((0, 1, 0, 1))), ((1, 0), Leaf((0, 1, 0, 1)))):
            no = Leaf((0, 0, 1)) if form == (0, 0) else Leaf((1, 0, 1))
            self.same(shows_shown(A, A + B, Shown((Split(form, yes, no),))), True)
            self.same(shows_shown(A, A + B, Shown((Split(form, no, no),))), False)
        self.same(shows_shown(A, A + B, Shown((Split((1, 0), nowhere, Leaf((1, 0, 1))),))), False)
        tree = Split((1, -1), Leaf((0, 1, 0, 1)), Split((1, -1), Leaf((0, 0, 1, 1)), Leaf((1, 0, 0, 0, 1))))
        self.same(shows_shown(A - B, A, Shown((tree,))), True)

    def test_parteds(self):
        counts = {"a": 2, "b": 1}
        self.same([shows_parted(A - B, B - A, Parted((), counts)), shows_parted(B - A, A - B, Parted((), counts)),
                   shows_parted(A, A, Parted((), {"a": 2})), shows_parted(A, B, Parted((), counts), Within(A, B)),
                   shows_parted(A, B, Parted((), counts), Within(B, A))], [True, False, False, False, True])
        self.same([shows_parted(A, A % LOW, Parted(row, {"a": 1})) for row in [
            (("x", 5),), (("x", 10 ** 60),), (("x", None),), (("x", 4),), (("y", 5),), (), ("x", 5), [("x", 5)],
            (("x", True),)]], [True, True, True] + [False] * 6)
        self.same([shows_parted(A, Empty(), Parted((), {"a": count})) for count in [
            1, 10 ** 30, 10 ** 30 + 1, 0, -1, True, None, "1"]], [True, True] + [False] * 6)

    def test_agreeds(self):
        first, last = never_more(A + B, B + A), never_more(B + A, A + B)
        self.same([shows_agreed(A + B, B + A, Agreed(first, last)), shows_agreed(A + B, B + A, Agreed(first, None)),
                   shows_agreed(A + B, B + A, Agreed(None, last)), shows_agreed(A + B, B + A, first)],
                  [True, False, False, False])
        low, high = never_more(A, A + B), Parted((), {"a": 0, "b": 1})
        self.same([shows_agreed(A, A + B, Agreed(low, low)), shows_agreed(A, A + B, Agreed(low, high))], [False, False])

    def test_by_name(self):
        self.same([shows_shown(value=never_more(A, A | B), other=A | B, one=A),
                   shows_agreed(value=alike(A, A & A), other=A & A, one=A),
                   shows_parted(value=never_more(A, B), other=B, one=A)], [True, True, True])


class DrawnTest(Case):

    def check(self, case, dice):
        """Right papers and bent ones against the own reckoning; how many bent ones are right and wrong."""
        one, other, *rules = case.made()
        found = never_more(one, other, *rules)
        bent = list(bent_parteds(found, dice) if isinstance(found, Parted) else bent_showns(found, dice))
        told = [0, 0]
        for value in [found, *bent]:
            expected = [case.is_shown(value), case.is_parted(value)]
            self.same([shows_shown(one, other, value, *rules), shows_parted(one, other, value, *rules)], expected)
            told[any(expected)] += 1
        self.same([shows_shown(one, other, found, *rules), shows_parted(one, other, found, *rules)],
                  [bool(found), not found])
        both = alike(one, other, *rules)
        self.same(shows_agreed(one, other, both, *rules), bool(both))
        if both:
            self.same([shows_agreed(one, other, Agreed(value, both.last), *rules) for value in bent[:12]],
                      [case.is_shown(value) for value in bent[:12]])
            self.same([shows_agreed(one, other, Agreed(both.first, value), *rules) for value in bent[:12]],
                      [case.turned().is_shown(value) for value in bent[:12]])
        return told

    def check_drawn(self, seed, many, **how):
        dice = random.Random(seed)
        told = [self.check(some_case(dice, **how), dice) for _ in range(many)]
        self.assertGreater(min(sum(wrong for wrong, _ in told), sum(right for _, right in told)), many)

    def test_plain_ones(self):
        self.check_drawn(137, 100, tests=False)

    def test_plain_ones_with_rules(self):
        self.check_drawn(139, 80, tests=False, rules=1, depths=(0, 1, 2))
        self.check_drawn(149, 40, tests=False, rules=2, depths=(0, 1))

    def test_with_tests(self):
        self.check_drawn(151, 60, names="ab")

    def test_with_tests_and_rules(self):
        self.check_drawn(157, 40, names="ab", rules=1, depths=(0, 1, 2))

    def test_papers_of_others(self):
        """A paper of one judgement, looked at in another one."""
        dice = random.Random(163)
        cases = [some_case(dice, "ab", False, depths=(0, 1, 2)) for _ in range(30)]
        papers = [never_more(*case.made()) for case in cases]
        for case in cases:
            one, other = case.made()
            for paper in papers:
                self.same([shows_shown(one, other, paper), shows_parted(one, other, paper)],
                          [case.is_shown(paper), case.is_parted(paper)])


class GreatTreesTest(Case):

    def test_sixty_splits(self):
        for splits in (0, 1, 59, 60, 61, 100):
            tree = chain(splits, lambda many: Leaf((0,) * (1 + many) + (1,)))
            self.same(shows_shown(A, A, Shown((tree,))), splits <= 60)

    def test_sixty_splits_on_either_side(self):
        for sides in ("y", "n", "yn", "ynn", "nnnnyy"):
            for splits in (1, 59, 60, 61, 62):
                self.same(shows_shown(A, A, Shown((winding(splits, sides),))), splits <= 60)

    def test_far_too_deep(self):
        tree = Leaf((0, 1))
        for _ in range(5000):
            tree = Split((1,), tree, Leaf((1,)))
        self.same(shows_shown(A, A, Shown((tree,))), False)
        self.same(shows_agreed(A, A, Agreed(Shown((tree,)), Shown((Leaf((0, 1)),)))), False)

    def test_three_thousand_leaves(self):
        for leaves in (1, 2, 3, 2999, 3000, 3001, 4096):
            self.same(shows_shown(A, A, Shown((bush(leaves),))), leaves <= 3000)
        right, wide = Shown((Leaf((0, 1)),)), Shown((bush(3001),))
        self.same([shows_agreed(A, A, Agreed(right, right)), shows_agreed(A, A, Agreed(right, wide)),
                   shows_agreed(A, A, Agreed(wide, right)), shows_agreed(A, A, Agreed(right, Shown((bush(3000),))))],
                  [True, False, False, True])

    def test_each_tree_may_have_so_many(self):
        one = A % Missing("x")
        self.same(shows_shown(one, one, Shown((bush(3000), bush(3000)))), True)
        self.same(shows_shown(one, one, Shown((bush(3000), bush(3001)))), False)

    def test_one_tree_at_many_places(self):
        tree = Leaf((0, 1))
        for _ in range(60):
            tree = Split((1,), tree, tree)
        self.same(shows_shown(A, A, Shown((tree,))), False)

    def test_deep_and_wide(self):
        """Sixty Splits above leaves, and 3,000 of them in all."""
        def last(many):
            return bush(3000 - many, (1,) * many)
        self.same(shows_shown(A, A, Shown((chain(48, last),))), True)
        self.same(shows_shown(A, A, Shown((chain(49, last),))), False)

    def test_great_weights(self):
        great = 10 ** 300
        self.same(shows_shown(A, A + B, Shown((Leaf((0, great, great)),))), True)
        self.same(shows_shown(A, A + B, Shown((Leaf((0, great, great + 1)),))), False)
        self.same(shows_shown(A, A, Shown((Split((great,), Leaf((0, 0, 1)), Leaf((great, 1))),))), True)


class WrongTest(Case):

    def test_any_paper(self):
        for value in any_values():
            for look in LOOKS:
                self.same(look(A, B, value), look is shows_parted and type(value) is Parted and value.row == () and
                          value.counts == {"a": 1, "b": 0})
            for paper in (Shown, Agreed, Parted, Leaf, Split):
                made = paper(*[value] * {Shown: 1, Leaf: 1, Split: 3}.get(paper, 2))
                for look in LOOKS:
                    self.same(look(A, A + B, made), False)
            self.same(shows_shown(A, A + B, Shown((value,))), False)
            self.same(shows_parted(A, B, Parted(value, {"a": 1, "b": 0})), value == ())
            self.same(shows_parted(A, B, Parted((), value)), False)
            self.same(shows_shown(A, A + B, Shown((Split(value, Leaf((0, 1, 0, 1)), Leaf((0, 1, 0, 1))),))), False)
            self.same(shows_shown(A, A + B, Shown((Split((1, 0), Leaf((0, 1, 0, 1)), value),))), False)

    def test_any_argument(self):
        right = never_more(A, A + B)
        for look in LOOKS:
            for value in any_values():
                if not isinstance(value, Question):
                    self.refused(BadQuestion("one"), look, value, value, value, value)
                    self.refused(BadQuestion("one"), look, one=value, other=A, value=right)
                    self.refused(BadQuestion("other"), look, deep(11), value, right, value)
                if not isinstance(value, Rule):
                    self.refused(BadRule(0), look, A, A + B, right, value)
                    self.refused(BadRule(1), look, deep(11), B, None, Within(A, B), value, value)

    def test_sizes(self):
        four = with_conditions(A, LOW, Equals("y", 0), UpTo("z", 0), Missing("x"))
        rules = [Within(A, B)] * 5
        for look in LOOKS:
            for value in (None, never_more(A, A), never_more(A, B), alike(A, A)):
                self.refused(TooMany("tables", 4), look, A + B + C + D + E, four + deep(11), value, *rules)
                self.refused(TooMany("tables", 4), look, A + B, C + D, value, Apart(D, E))
                self.refused(TooMany("operators", 10), look, deep(11), four, value, *rules)
                self.refused(TooMany("operators", 10), look, deep(5), A, value, Apart(deep(5), A))
                self.refused(TooMany("conditions", 3), look, four, A, value, *rules)
                self.refused(TooMany("rules", 4), look, A, B, value, *rules)
                self.assertIsInstance(look(deep(10), B, value), bool)
                self.assertIsInstance(look(A, B, value, *rules[:4]), bool)

    def test_papers_stay(self):
        paper = never_more(A, B)
        before = [paper.row, dict(paper.counts)]
        shows_parted(A, B, paper)
        self.same([paper.row, paper.counts], before)


if __name__ == "__main__":
    unittest.main()
