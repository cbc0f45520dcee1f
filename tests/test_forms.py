"""Promises [2], [9] and forms.py."""

import fractions
import itertools
import random
import unittest

from anything import Case, any_values, is_integer
from rowcounts.errors import BadForm, BadNumber, BadText
from rowcounts.forms import Bound, is_multiple


def is_form(value):
    return type(value) is tuple and len(value) <= 8 and all(is_integer(factor) for factor in value)


def some_bounds(seed, many):
    dice = random.Random(seed)
    for _ in range(many):
        yield Bound(tuple(dice.choice([-3, -1, 0, 0, 1, 2]) for _ in range(3)), dice.random() < 0.5)


class MakingTest(Case):

    def test_attributes(self):
        bound = Bound((1, -1), True)
        self.same([bound.form, bound.is_strict, len(bound)], [(1, -1), True, 2])
        self.same([Bound((1,)).is_strict, Bound(()).form, len(Bound(()))], [False, (), 0])
        bound = Bound(is_strict=True, form=(0,) * 8)
        self.same([bound.form, bound.is_strict, len(bound)], [(0,) * 8, True, 8])

    def test_any_form(self):
        for value in [*any_values(), (0,) * 8, (0,) * 9, [1, 2], (1, True), (1, None), (1, "1")]:
            if is_form(value):
                self.same(Bound(value).form, value)
            else:
                self.refused(BadForm("form"), Bound, value)
                self.refused(BadForm("form"), Bound, value, value)

    def test_any_strict(self):
        for value in any_values():
            if isinstance(value, bool):
                self.same(Bound((1,), value).is_strict, value)
            else:
                self.refused(BadForm("strict"), Bound, (1,), value)

    def test_is_false(self):
        told = [Bound((0, 0), True), Bound((), True), Bound((0, 0)), Bound(()), Bound((0, 1), True), Bound((-1,), True)]
        self.same([bound.is_false for bound in told], [True, True, False, False, False, False])

    def test_equality(self):
        told = [((1, 2), False), ((1, 2), True), ((2, 1), False), ((1,), False), ((), False), ((), True), ((0, 0), True)]
        for at, one in enumerate(told):
            for place, other in enumerate(told):
                self.same([Bound(*one) == Bound(*other), Bound(*one) != Bound(*other)], [at == place, at != place])
            for value in any_values():
                if not isinstance(value, Bound):
                    self.same([Bound(*one) == value, Bound(*one) != value], [False, True])


class AskingTest(Case):

    def test_whether_it_holds(self):
        for bound in some_bounds(1, 40):
            for numbers in itertools.product([-2, 0, 1, 3], repeat=3):
                total = sum(a * b for a, b in zip(bound.form, numbers))
                expected = total > 0 if bound.is_strict else total >= 0
                self.same([bound(numbers), bound(list(numbers)), bound(numbers=numbers)], [expected] * 3)
        self.same([Bound(())(()), Bound((), True)([])], [True, False])
        self.same(Bound((10 ** 59, -1), True)((10, 10 ** 60)), False)

    def test_any_numbers(self):
        for bound in (Bound((1, -1)), Bound(()), Bound((0,), True)):
            for value in [*any_values(), (1, True), [1, None], (1, 2, 3), {0: 1, 1: 2}]:
                is_right = type(value) in (list, tuple) and len(value) == len(bound) and all(
                    is_integer(number) for number in value)
                if is_right:
                    self.assertIsInstance(bound(value), bool)
                else:
                    self.refused(BadForm("numbers"), bound, value)


class PuttingTogetherTest(Case):

    def test_sums(self):
        bounds = list(some_bounds(2, 20))
        for one, other in itertools.product(bounds, bounds):
            form = tuple(a + b for a, b in zip(one.form, other.form))
            self.assertEqual(one + other, Bound(form, one.is_strict or other.is_strict))
        self.assertEqual(Bound(()) + Bound((), True), Bound((), True))

    def test_any_other(self):
        for value in any_values():
            if not isinstance(value, Bound):
                self.refused(BadForm("other"), lambda: Bound((1,)) + value)
        self.refused(BadForm("length"), lambda: Bound((1,)) + Bound((1, 0)))
        self.refused(BadForm("length"), lambda: Bound(()) + Bound((0,), True))

    def test_factors(self):
        for bound in some_bounds(3, 20):
            for number in (1, 2, 10 ** 60):
                expected = Bound(tuple(number * factor for factor in bound.form), bound.is_strict)
                self.assertEqual([number * bound, bound * number], [expected] * 2)

    def test_any_factor(self):
        bound = Bound((1, 2))
        for value in any_values():
            if not (is_integer(value) and value >= 1):
                self.refused(BadNumber(value), lambda: bound * value)
                if not hasattr(type(value), "__mul__") or isinstance(value, (int, str, list, tuple)):
                    self.refused(BadNumber(value), lambda: value * bound)

    def test_opposites(self):
        for bound in some_bounds(4, 30):
            self.assertEqual(~bound, Bound(tuple(-factor for factor in bound.form), not bound.is_strict))
            self.assertEqual(~~bound, bound)
            for numbers in itertools.product([-1, 0, 2], repeat=3):
                self.assertNotEqual(bound(numbers), (~bound)(numbers))

    def test_in_place_binds_the_name(self):
        elder = Bound((1, -1))
        bound = elder
        bound += Bound((0, 3), True)
        self.assertEqual(bound, Bound((1, 2), True))
        bound *= 3
        self.assertEqual(bound, Bound((3, 6), True))
        self.assertEqual(elder, Bound((1, -1)))


class TextTest(Case):

    def test_str(self):
        texts = {"1 -1 >= 0": Bound((1, -1)), "0 > 0": Bound((0,), True), ">= 0": Bound(()), "> 0": Bound((), True),
                 "-5 0 7 > 0": Bound((-5, 0, 7), True), "1 2 3 4 5 6 7 8 >= 0": Bound((1, 2, 3, 4, 5, 6, 7, 8))}
        for text, bound in texts.items():
            self.same(str(bound), text)
            self.assertEqual([Bound.read(text), Bound.read(text=text)], [bound] * 2)

    def test_what_is_written_is_read(self):
        for bound in some_bounds(5, 40):
            self.assertEqual(Bound.read(str(bound)), bound)
        great = Bound((10 ** 60 - 1, 1 - 10 ** 60), True)
        self.assertEqual(Bound.read(str(great)), great)
        self.same(str(10 * great), f"{10 ** 61 - 10} {10 - 10 ** 61} > 0")

    def test_any_value_that_is_no_text(self):
        for value in any_values():
            if not isinstance(value, str):
                self.refused(BadText(0, 0), Bound.read, value)

    def test_words_that_cannot_stand(self):
        wrong = {
            "": 0, " >= 0": 0, "1": 1, "1 ": 1, "1 -1": 2, "1 -1 >=": 3, "1 -1 >= ": 3, "1 -1 >= 1": 3, "1 1 > 1": 3,
            "1 -1 >= 0 0": 4, "1 -1 >= 0 ": 4, "1 -1 = 0": 2, "1 -1 < 0": 2, "1 -1 >== 0": 2, "01 >= 0": 0,
            "-0 >= 0": 0, "+1 >= 0": 0, "1.0 >= 0": 0, "x >= 0": 0, "1  2 >= 0": 1, "1 >= -0": 2, "1 >= 00": 2,
            "1 2 3 4 5 6 7 8 9 >= 0": 8, "1 2 3 4 5 6 7 8": 8, ">": 1, "> 0 0": 2, "0 0": 2, "1, >= 0": 0,
            f"1 {10 ** 60} >= 0": 1, f"-{10 ** 60} >= 0": 0, "1 >=\n 0": 1,
        }
        for text, word in wrong.items():
            self.refused(BadText(0, word), Bound.read, text)

    def test_changed_words(self):
        pool = ["", "0", "1", "-1", ">", ">=", "00", "x", "<"]
        for text in [">= 0", "1 -1 > 0", "1 2 3 4 5 6 7 8 >= 0"]:
            words = text.split(" ")
            for at in range(len(words) + 1):
                for word in pool:
                    self.check_text(words[:at] + [word] + words[at:])
                    self.check_text(words[:at] + [word] + words[at + 1:])
                self.check_text(words[:at] + words[at + 1:])
                self.check_text(words[:at])

    def check_text(self, words):
        text = " ".join(words)
        words = text.split(" ")
        many = next((at for at, word in enumerate(words) if at == 8 or word not in ("0", "1", "-1", "2", "3", "4", "5",
                                                                                   "6", "7", "8")), len(words))
        tail = words[many:]
        if tail[:1] not in ([">"], [">="]):
            self.refused(BadText(0, many), Bound.read, text)
        elif tail[1:2] != ["0"]:
            self.refused(BadText(0, many + 1), Bound.read, text)
        elif len(tail) > 2:
            self.refused(BadText(0, many + 2), Bound.read, text)
        else:
            self.same(str(Bound.read(text)), text)


class MultiplesTest(Case):

    def test_small_forms(self):
        forms = list(itertools.product(range(-3, 4), repeat=2)) + [(), (1,), (0,)]
        factors = {fractions.Fraction(a, b) for a in range(1, 4) for b in range(1, 4)}
        for one, other in itertools.product(forms, forms):
            expected = len(one) == len(other) and any(
                all(a == factor * b for a, b in zip(one, other)) for factor in factors)
            self.same(is_multiple(one, other), expected)

    def test_great_and_long_forms(self):
        one = (0, 10 ** 60, -3 * 10 ** 59, 0, 0, 0, 0, 0)
        other = (0, 10, -3, 0, 0, 0, 0, 0)
        self.same([is_multiple(one, other), is_multiple(other, one)], [True, True])
        self.same(is_multiple(one, (0, 10, -3, 0, 0, 0, 0, 1)), False)
        self.same(is_multiple((1,) * 8, (2,) * 8), True)
        self.same(is_multiple((1,) * 9, (2,) * 9), False)
        self.same(is_multiple(one=(2, 1), other=(1, 2)), False)
        self.same(is_multiple((10 ** 60 + 1, 1), (10 ** 60, 1)), False)

    def test_any_values(self):
        for one in any_values():
            for other in [one, (1,), (0,), (), (1, 2, 3)]:
                right = is_form(one) and is_form(other) and len(one) == len(other)
                if not right:
                    self.same([is_multiple(one, other), is_multiple(other, one)], [False, False])
            self.same(is_multiple(one, one), is_form(one))
        self.same([is_multiple((True,), (1,)), is_multiple((1,), [1]), is_multiple([1], [1])], [False] * 3)


if __name__ == "__main__":
    unittest.main()
