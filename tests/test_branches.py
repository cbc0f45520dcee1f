"""Promises [2], [8], [9] and branches.py."""

import fractions
import itertools
import random
import unittest

from anything import Case, any_values, is_integer, repr_of
from rowcounts.branches import Branch, Open, form_of
from rowcounts.errors import BadBounds, BadForm, BadQuestion, BadTest, NoTable
from rowcounts.forms import Bound
from rowcounts.questions import Empty, Question, Table
from rowcounts.truths import Below, Equals, Has, Missing
from test_truths import is_name
from trees import FALSE, TRUE, UNKNOWN, made_of, size_of, some_question, text_of

A, B, C = Table("a"), Table("b"), Table("c")

AB = Branch(("a", "b"))

LOW = Below("x", 5)


class OpenAt(Exception):
    """The own reckoning meets a comparison that is open."""


def is_multiple_of(form, other):
    """Whether a form is another one times a fraction above 0, told by the fraction."""
    found = [fractions.Fraction(a, b) for a, b in zip(form, other) if b]
    factor = found[0] if found else fractions.Fraction(1)
    return factor > 0 and all(a == factor * b for a, b in zip(form, other))


def at_least(form, bounds):
    return min(form, default=0) >= 0 or any(is_multiple_of(form, bound.form) for bound in bounds)


def minus(form):
    return tuple(-factor for factor in form)


def side_of(form, bounds):
    if at_least(form, bounds):
        return True
    return False if at_least(minus(form), bounds) else None


def stands_of(form, bounds):
    if any(bound.is_strict and is_multiple_of(form, bound.form) for bound in bounds):
        return True
    return False if at_least(minus(form), bounds) else None


def form_of_tree(tree, truths, names, bounds):
    """The own reckoning of form_of, over trees."""
    kind = tree[0]
    if kind in ("table", "empty"):
        return tuple(int(kind == "table" and name == tree[1]) for name in names)
    if kind == "*":
        return tuple(tree[1] * factor for factor in form_of_tree(tree[2], truths, names, bounds))
    one = form_of_tree(tree[1], truths, names, bounds)
    nought = (0,) * len(names)
    if kind in ("where", "unless"):
        is_true = truth_of_tree(tree[2], truths, names, bounds) == TRUE
        return one if is_true == (kind == "where") else nought
    other = form_of_tree(tree[2], truths, names, bounds)
    if kind == "+":
        return tuple(a + b for a, b in zip(one, other))
    rest = tuple(a - b for a, b in zip(one, other))
    side = side_of(rest, bounds)
    if side is None:
        raise OpenAt(rest)
    return {"&": (one, other), "|": (other, one), "-": (nought, rest)}[kind][side]


def truth_of_tree(tree, truths, names, bounds):
    kind = tree[0]
    if kind in ("and", "or"):
        found = [truth_of_tree(part, truths, names, bounds) for part in tree[1:]]
        return min(found) if kind == "and" else max(found)
    if kind == "not":
        return TRUE - truth_of_tree(tree[1], truths, names, bounds)
    if kind == "has":
        form = form_of_tree(tree[1], truths, names, bounds)
        stands = stands_of(form, bounds)
        if stands is None:
            raise OpenAt(minus(form))
        return TRUE if stands else FALSE
    return {True: TRUE, False: FALSE, None: UNKNOWN}[truths[text_of(tree)]]


def some_bounds(dice, many, length):
    return [Bound(tuple(dice.choice([-2, -1, 0, 1, 1]) for _ in range(length)), dice.random() < 0.5)
            for _ in range(many)]


class BranchTest(Case):

    def test_bounds_in_their_order(self):
        more, less = Bound((1, -1)), Bound((-1, 1), True)
        branch = Branch(("a", "b"), less, more, less)
        bounds = (Bound((1, 0)), Bound((0, 1)), less, more, less)
        self.same([branch.names, len(branch), len(Branch(()))], [("a", "b"), 5, 0])
        self.assertEqual([branch.bounds, tuple(branch), branch[:]], [bounds] * 3)
        self.assertEqual([branch[0], branch[-1], branch[2:4], branch[9:]], [bounds[0], less, bounds[2:4], ()])
        self.same([type(branch.bounds), type(branch[1:])], [tuple, tuple])
        for at in (5, -6):
            with self.assertRaises(IndexError):
                branch[at]
        self.assertEqual(Branch(names=("a", "b")), AB)

    def test_any_names(self):
        for value in [*any_values(), tuple("abcdefgh"), tuple("abcdefghi"), ("b", "a"), ("a", "a"), ["a"], ("a", "null"),
                      ("a", 1)]:
            is_right = (type(value) is tuple and len(value) <= 8 and all(is_name(name) for name in value)
                        and list(value) == sorted(set(value)))
            if is_right:
                self.same(Branch(value).names, value)
                self.same(len(Branch(value)), len(value))
            else:
                self.refused(BadForm("names"), Branch, value)
                self.refused(BadForm("names"), Branch, value, 5)

    def test_any_bound(self):
        for value in [*any_values(), Bound((1,)), Bound((1, 2, 3), True), Bound(())]:
            if not (isinstance(value, Bound) and len(value) == 2):
                self.refused(BadBounds(0), Branch, ("a", "b"), value, 5)
                self.refused(BadBounds(1), Branch, ("a", "b"), Bound((1, 1)), value)
                self.refused(BadBounds(None), lambda: AB + value)

    def test_plus(self):
        more, less = Bound((1, -1)), Bound((-1, 1), True)
        self.assertEqual(AB + more + less, Branch(("a", "b"), more, less))
        branch = AB
        branch += more
        branch += more
        self.assertEqual([branch, AB], [Branch(("a", "b"), more, more), Branch(("a", "b"))])
        self.same([len(branch), len(AB)], [4, 2])

    def test_in(self):
        branch = AB + Bound((1, -2))
        for value in any_values():
            self.same(value in branch, False)
        told = [Bound((1, 0)), Bound((0, 1)), Bound((1, -2)), Bound((1, -2), True), Bound((1, 0), True), Bound((2, 0))]
        self.same([bound in branch for bound in told], [True, True, True, False, False, False])

    def test_whether_all_bounds_hold(self):
        branch = AB + Bound((1, -1), True)
        for one, other in itertools.product(range(-1, 3), repeat=2):
            expected = one >= 0 and other >= 0 and one > other
            self.same([branch((one, other)), branch([one, other]), branch(numbers=(one, other))], [expected] * 3)
        self.same(Branch(())(()), True)
        for value in [*any_values(), (1, True), (1, 2, 3)]:
            if not (type(value) in (list, tuple) and len(value) == 2 and all(is_integer(one) for one in value)):
                self.refused(BadForm("numbers"), branch, value)

    def test_equality(self):
        def made():
            more, less = Bound((1, -1)), Bound((-1, 1), True)
            return [AB, AB + more, AB + less, AB + more + less, AB + less + more, Branch(("a", "c")), Branch(("a",)),
                    Branch(()), Branch(("a", "b"), Bound((1, 0)))]
        for at, one in enumerate(made()):
            for place, other in enumerate(made()):
                self.same([one == other, one != other], [at == place, at != place])
            for value in any_values():
                if not isinstance(value, Branch):
                    self.same([one == value, one != value], [False, True])


class SidesTest(Case):

    def test_against_the_document(self):
        dice = random.Random(23)
        forms = list(itertools.product(range(-2, 3), repeat=2))
        for _ in range(60):
            bounds = some_bounds(dice, dice.randrange(4), 2)
            branch = Branch(("a", "b"), *bounds)
            for form in forms:
                self.same(branch.side(form), side_of(form, branch.bounds))
                self.same(branch.stands(form), stands_of(form, branch.bounds))

    def test_told_sides(self):
        more, less = AB + Bound((2, -2)), AB + Bound((-1, 1), True)
        self.same([AB.side((0, 0)), AB.side((1, 3)), AB.side((-1, 0)), AB.side((1, -1))], [True, True, False, None])
        self.same([more.side((1, -1)), more.side((-3, 3)), more.side((2, -1)), more.side(form=(7, -7))],
                  [True, False, None, True])
        self.same([less.side((-1, 1)), less.side((1, -1))], [True, False])
        both = more + Bound((-1, 1))
        self.same([both.side((1, -1)), both.side((-1, 1))], [True, True])

    def test_told_standings(self):
        more = AB + Bound((1, 0), True)
        self.same([AB.stands((1, 0)), AB.stands((0, 0)), AB.stands((-1, -2)), AB.stands((-1, 1))],
                  [None, False, False, None])
        self.same([more.stands((3, 0)), more.stands((1, 1)), more.stands((-1, 0)), more.stands(form=(0, 1))],
                  [True, None, False, None])
        weak = AB + Bound((1, -1))
        self.same([weak.stands((1, -1)), weak.stands((-1, 1))], [None, False])
        both = AB + Bound((1, -1), True) + Bound((-1, 1))
        self.same([both.stands((1, -1)), both.stands((-2, 2))], [True, False])
        self.same([(AB + Bound((0, 0), True)).stands((0, 0)), (AB + Bound((0, 0), True)).side((0, 0))], [True, True])

    def test_any_form(self):
        for value in [*any_values(), (1, True), [1, 2], (1, 2, 3), (1,), ()]:
            if not (type(value) is tuple and len(value) == 2 and all(is_integer(one) for one in value)):
                self.refused(BadForm("form"), AB.side, value)
                self.refused(BadForm("form"), AB.stands, value)


class OpenTest(Case):

    def test_a_paper_of_any_values(self):
        self.check_paper(Open, "form")
        for value in any_values():
            self.same(bool(Open(value)), True)


class FormOfTest(Case):

    def test_against_the_own_reckoning(self):
        dice = random.Random(29)
        names = ("a", "b", "c")
        opened = told = 0
        for _ in range(2000):
            tree = some_question(dice, dice.choice([1, 2, 3]))
            bounds = some_bounds(dice, dice.randrange(6), 3)
            bounds += [Bound(dice.choice(list(itertools.permutations([1, -1, 0]))), True) for _ in range(4)]
            branch = Branch(names, *bounds)
            question = made_of(tree)
            truths = {str(one): dice.choice([True, False, None]) for one in question.conditions}
            found = form_of(question, truths, branch)
            try:
                expected = form_of_tree(tree, truths, names, branch.bounds)
                self.same(found, expected)
                told += 1
            except OpenAt as wall:
                self.assertEqual(found, Open(wall.args[0]))
                self.same(found.form, wall.args[0])
                opened += 1
        self.assertGreater(min(opened, told), 300)

    def test_with_further_bounds_all_questions_become_forms(self):
        """With bounds that given counts keep, the form tells the number of the row at these counts."""
        dice = random.Random(31)
        for _ in range(300):
            tree = some_question(dice, 4)
            if size_of(tree) > 40:
                continue
            question = made_of(tree)
            values = {"x": dice.choice([None, -3, 0, 1]), "y": dice.choice([None, -2, 1])}
            counts = {name: dice.choice([0, 0, 1, 2, 5]) for name in "abc"}
            numbers = tuple(counts.values())
            truths = {str(one): one.truth(values) for one in question.conditions}
            branch = Branch(("a", "b", "c"))
            found = form_of(question, truths, branch)
            while isinstance(found, Open):
                bound = Bound(found.form)
                branch = branch + (bound if bound(numbers) else ~bound)
                after = form_of(question, truths, branch)
                self.assertFalse(after == found)
                found = after
            self.assertTrue(branch(numbers))
            for scale in (1, 3, 10 ** 9):
                total = sum(scale * a * b for a, b in zip(found, numbers))
                more = {name: scale * count for name, count in counts.items()}
                self.same(total, question.often(values, more))

    def test_straight_ones(self):
        self.same([form_of(A, {}, AB), form_of(B * 3, {}, AB), form_of(Empty(), {}, AB)], [(1, 0), (0, 3), (0, 0)])
        self.same(form_of(A + B * 2 + A * 0, {}, AB), (1, 2))
        self.same(form_of(Empty(), {}, Branch(())), ())
        self.same(form_of(question=A, truths={}, branch=Branch(("a",))), (1,))

    def test_bent_ones(self):
        more, less = AB + Bound((1, -1)), AB + Bound((-1, 1), True)
        for question, forms in ((A & B, [(0, 1), (1, 0)]), (A | B, [(1, 0), (0, 1)]), (A - B, [(1, -1), (0, 0)])):
            self.same([form_of(question, {}, more), form_of(question, {}, less)], forms)
            self.assertEqual(form_of(question, {}, AB), Open((1, -1)))
        both = more + Bound((-1, 1))
        self.same([form_of(one, {}, both) for one in (A & B, A | B, A - B, B - A)], [(0, 1), (1, 0), (1, -1), (-1, 1)])

    def test_the_first_open_comparison(self):
        first, second = A - B, C - B
        abc = Branch(("a", "b", "c"))
        for question in (first + second, (first * 0) + second, first % Has(second), first // Has(second),
                         first & second, (first - A) - second, A % (Has(first) & Has(second)),
                         A % (~Has(first) | (LOW & Has(second)))):
            self.assertEqual(form_of(question, {"x < 5": False}, abc), Open((1, -1, 0)), question)
            branch = abc + Bound((1, -1, 0))
            self.assertNotEqual(form_of(question, {"x < 5": False}, branch), Open((1, -1, 0)), question)
        branch = abc + Bound((1, -1, 0))
        self.assertEqual(form_of((A - B) & (C - B), {}, branch), Open((0, -1, 1)))
        self.assertEqual(form_of(A % Has(A - B), {}, branch), Open((-1, 1, 0)))
        self.assertEqual(form_of(A % (Has(A) & Has(B)), {}, abc), Open((-1, 0, 0)))
        self.assertEqual(form_of(A % (Has(B) & Has(A)), {}, abc), Open((0, -1, 0)))
        self.assertEqual(form_of((B - C) % Has(A), {}, abc), Open((0, 1, -1)))
        self.assertEqual(form_of(A % Has(B // Has(C)), {}, abc), Open((0, 0, -1)))
        self.assertEqual(form_of(A % Has(B // Has(C)), {}, abc + Bound((0, 0, -1))), Open((0, -1, 0)))

    def test_comparisons_on_which_nothing_hangs(self):
        truths = {"x < 5": False, "x null": True}
        told = [(A - B) * 0, (A - B) % LOW, Empty() & (A - B), (A - B) // Missing("x"), A % (LOW & Has(A - B)),
                A % (Missing("x") | Has(A - B)), A % Has((A - B) * 0), Empty() % Has(A - B)]
        for question in told:
            self.assertEqual(form_of(question, truths, AB), Open((1, -1)), question)
            self.assertNotIsInstance(form_of(question, truths, AB + Bound((-1, 1))), Open)

    def test_truths(self):
        for truth, where in ((True, (1, 0)), (False, (0, 0)), (None, (0, 0))):
            unless = (0, 0) if truth is True else (1, 0)
            opposite = (1, 0) if truth is False else (0, 0)
            truths = {"x < 5": truth, "y = 2": None}
            self.same([form_of(A % LOW, truths, AB), form_of(A // LOW, truths, AB)], [where, unless])
            self.same(form_of(A % ~LOW, truths, AB), opposite)
            self.same(form_of(A % (LOW & Equals("y", 2)), truths, AB), (0, 0))
            self.same(form_of(A % (LOW | Equals("y", 2)), truths, AB), where)
            self.same(form_of(A // ~(LOW & Equals("y", 2)), truths, AB), (0, 0) if truth is False else (1, 0))

    def test_has(self):
        more = AB + Bound((0, 1), True)
        self.same([form_of(A % Has(B), {}, more), form_of(A // Has(B), {}, more)], [(1, 0), (0, 0)])
        self.same([form_of(A % ~Has(B), {}, more), form_of(A % Has(B * 3), {}, more)], [(0, 0), (1, 0)])
        none = AB + Bound((0, -1))
        self.same([form_of(A % Has(B), {}, none), form_of(A // Has(B), {}, none)], [(0, 0), (1, 0)])
        self.same(form_of(A % Has(Empty()), {}, AB), (0, 0))
        self.same(form_of(A % (Has(B) | Has(B % LOW)), {"x < 5": None}, more), (1, 0))

    def test_any_question_and_branch(self):
        for value in any_values():
            if not isinstance(value, Question):
                self.refused(BadQuestion("question"), form_of, value, value, value)
                self.refused(BadQuestion("question"), form_of, value, {}, AB)
            if not isinstance(value, Branch):
                self.refused(BadForm("branch"), form_of, A, {}, value)

    def test_any_truths(self):
        question = A % LOW + B % Has(A % Missing("y"))
        right = {"x < 5": None, "y null": False}
        for value in any_values():
            if type(value) is not dict:
                self.refused(BadTest("truths"), form_of, A, value, AB)
            self.refused(BadTest("truths"), form_of, question, value, value)
            if value is not None and not isinstance(value, bool):
                for text in right:
                    self.refused(BadTest("truths"), form_of, question, {**right, text: value}, AB)
        for text in right:
            self.refused(BadTest("truths"), form_of, question, {text: True}, AB)
        self.assertEqual(form_of(question, {**right, "z": 5, 3: None, "y < 5": 2}, AB), (0, 0))

    def test_names_that_the_branch_lacks(self):
        question = A % Has(B) + C % LOW
        self.refused(NoTable("a"), form_of, question, {"x < 5": True}, Branch(("b",)))
        self.refused(NoTable("b"), form_of, question, {"x < 5": True}, Branch(("a", "c", "d")))
        self.refused(NoTable("c"), form_of, question, {"x < 5": True}, AB)
        self.refused(BadTest("truths"), form_of, question, {"x < 5": 1}, AB)
        self.refused(BadTest("truths"), form_of, question, {}, 5)
        self.refused(BadForm("branch"), form_of, question, {"x < 5": True}, None)

    def test_arguments_stay(self):
        truths, bound = {"x < 5": True}, Bound((1, -1))
        branch = AB + bound
        form_of((A - B) % LOW, truths, branch)
        self.same([truths, str(bound), len(branch), branch.names], [{"x < 5": True}, "1 -1 >= 0", 3, ("a", "b")])


if __name__ == "__main__":
    unittest.main()
