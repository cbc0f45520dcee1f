"""Forms, which are sums of multiples of numbers, and bounds, which say that a form is at least 0 or above 0."""

from math import gcd

from rowcounts.basics import is_integer
from rowcounts.errors import BadForm, BadNumber, BadText
from rowcounts.parsing import expect, expect_end, is_integer_word, word_at, words_of

MOST_FACTORS = 8


class Bound:
    """A form is at least 0 or, if the bound is strict, above 0."""

    def __init__(self, form, is_strict=False):
        if not is_form(form):
            raise BadForm("form")
        if not isinstance(is_strict, bool):
            raise BadForm("strict")
        self.form = form
        self.is_strict = is_strict

    @staticmethod
    def read(text):
        """The bound with this text."""
        words = words_of(text)
        many = 0
        while many < MOST_FACTORS and is_integer_word(word_at(words, many)):
            many += 1
        sign = word_at(words, many)
        if sign not in (">=", ">"):
            raise BadText(0, many)
        expect(words, many + 1, "0")
        expect_end(words, many + 2)
        return Bound(tuple([int(word) for word in words[:many]]), sign == ">")

    @property
    def is_false(self):
        """Whether the bound is strict and all its factors are 0, so that it holds nowhere."""
        return self.is_strict and is_nought(self.form)

    def __call__(self, numbers):
        check_numbers_of(numbers, len(self.form))
        total = value_of(self.form, numbers)
        return total > 0 if self.is_strict else total >= 0

    def __len__(self):
        return len(self.form)

    def __add__(self, other):
        if not isinstance(other, Bound):
            raise BadForm("other")
        if len(self.form) != len(other.form):
            raise BadForm("length")
        return Bound(sum_form(self.form, other.form), self.is_strict or other.is_strict)

    def __mul__(self, other):
        if not is_integer(other) or other < 1:
            raise BadNumber(other)
        return Bound(times_form(other, self.form), self.is_strict)

    def __rmul__(self, other):
        return self * other

    def __invert__(self):
        return Bound(minus_form(self.form), not self.is_strict)

    def __eq__(self, other):
        return isinstance(other, Bound) and self.form == other.form and self.is_strict == other.is_strict

    def __str__(self):
        return " ".join([*[str(factor) for factor in self.form], ">" if self.is_strict else ">=", "0"])


def is_multiple(one, other):
    """Whether any values are forms of the same length, and one is the other times a fraction above 0."""
    if not is_form(one) or not is_form_of(other, len(one)):
        return False
    at = first_factor(other)
    if at is None:
        return is_nought(one)
    if one[at] * other[at] <= 0:
        return False
    return all([factor * other[at] == against * one[at] for factor, against in zip(one, other)])


def lowest_terms(numbers):
    """The tuple of some integers, divided by all that divides each of them; multiples by fractions above 0 have one."""
    common = 0
    for number in numbers:
        common = gcd(common, number)
        if common == 1:
            return tuple(numbers)
    return tuple([number // common if common > 1 else number for number in numbers])


def first_factor(form):
    """The index of the first factor of a form that is not 0, or None."""
    for at, factor in enumerate(form):
        if factor != 0:
            return at
    return None


def is_form(value):
    """Whether any value is a form."""
    if not isinstance(value, tuple) or len(value) > MOST_FACTORS:
        return False
    return all([is_integer(factor) for factor in value])


def is_form_of(value, many):
    """Whether any value is a form over so many numbers."""
    return is_form(value) and len(value) == many


def is_bound_of(value, many):
    """Whether any value is a bound over so many numbers."""
    return isinstance(value, Bound) and len(value.form) == many


def is_nought(form):
    """Whether all factors of a form are 0."""
    return all([factor == 0 for factor in form])


def check_numbers_of(numbers, many):
    """Refuse any value that is no list or tuple of so many integers."""
    if not isinstance(numbers, (list, tuple)) or len(numbers) != many:
        raise BadForm("numbers")
    if not all([is_integer(number) for number in numbers]):
        raise BadForm("numbers")


def value_of(form, numbers):
    """What a form tells at some numbers."""
    return sum([factor * number for factor, number in zip(form, numbers)])


def values_of(form, points):
    """A list of what a form tells at some points; most forms are short."""
    if len(form) == 3:
        one, other, third = form
        return [one * first + other * second + third * last for first, second, last in points]
    if len(form) == 2:
        one, other = form
        return [one * first + other * second for first, second in points]
    return [value_of(form, point) for point in points]


def nought_form(many):
    """The form over so many numbers that is always 0."""
    return tuple([0 for _ in range(many)])


def unit_form(at, many):
    """The form over so many numbers that tells the one at an index."""
    return tuple([1 if place == at else 0 for place in range(many)])


def sum_form(one, other):
    """The form that tells what two forms tell together."""
    return tuple([factor + more for factor, more in zip(one, other)])


def times_form(number, form):
    """The form that tells what a form tells, times a number."""
    return tuple([number * factor for factor in form])


def minus_form(form):
    """The form that tells the opposite of what a form tells."""
    return tuple([-factor for factor in form])


def rest_form(one, other):
    """The form that tells what one form tells less what another one does."""
    return tuple([factor - less for factor, less in zip(one, other)])
