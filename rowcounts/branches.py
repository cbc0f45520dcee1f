"""Branches, which are rows of bounds, and the forms that questions are in them."""

from rowcounts.basics import are_names
from rowcounts.errors import BadBounds, BadForm, BadQuestion, BadTest, NoTable
from rowcounts.forms import (
    MOST_FACTORS, Bound, check_numbers_of, is_bound_of, is_form_of, lowest_terms, minus_form, nought_form, rest_form,
    sum_form, times_form, unit_form,
)
from rowcounts.papers import own_copy, same
from rowcounts.questions import Bent, Both, Chosen, Greater, Lesser, Question, Table, Times, Where
from rowcounts.truths import (
    And, Condition, Has, Not, truth_of_both, truth_of_either, truth_of_opposite,
)


class Branch:
    """Some bounds over the numbers of some tables, behind the bounds that each number is at least 0."""

    def __init__(self, names, *bounds):
        if not are_names(names, MOST_FACTORS):
            raise BadForm("names")
        for at, bound in enumerate(bounds):
            if not is_bound_of(bound, len(names)):
                raise BadBounds(at)
        self._names = names
        self._bounds = (*unit_bounds(len(names)), *bounds)
        self._plain = {lowest_terms(bound.form): True for bound in self._bounds}
        self._standing = {lowest_terms(bound.form): True for bound in self._bounds if bound.is_strict}

    @property
    def names(self):
        """The names of the tables, ascending."""
        return self._names

    @property
    def bounds(self):
        """All bounds in their order."""
        return self._bounds

    def __iter__(self):
        return iter(self._bounds)

    def __len__(self):
        return len(self._bounds)

    def __getitem__(self, at):
        return self._bounds[at]

    def __contains__(self, x):
        return x in self._bounds

    def __add__(self, other):
        if not is_bound_of(other, len(self._names)):
            raise BadBounds(None)
        bounds = [*self._bounds[len(self._names):], other]
        return Branch(self._names, *bounds)

    def __call__(self, numbers):
        check_numbers_of(numbers, len(self._names))
        return all([bound(numbers) for bound in self._bounds])

    def __eq__(self, other):
        return isinstance(other, Branch) and self._names == other._names and self._bounds == other._bounds

    def side(self, form):
        """True if it is plain that a form is at least 0, False if that it is at most 0, otherwise None."""
        if not is_form_of(form, len(self._names)):
            raise BadForm("form")
        if self.is_at_least(form):
            return True
        return False if self.is_at_least(minus_form(form)) else None

    def stands(self, form):
        """True if it is plain that a row stands so often at all, False if that it does not, otherwise None."""
        if not is_form_of(form, len(self._names)):
            raise BadForm("form")
        if lowest_terms(form) in self._standing:
            return True
        return False if self.is_at_least(minus_form(form)) else None

    def is_at_least(self, form):
        """Whether it is plain that a form is at least 0."""
        return all([factor >= 0 for factor in form]) or lowest_terms(form) in self._plain


class Open:
    """A paper: a comparison is open, which it is no longer with a bound on this form."""

    def __init__(self, form):
        self.form = own_copy(form)

    def __eq__(self, other):
        return isinstance(other, Open) and same(self.form, other.form)


def form_of(question, truths, branch):
    """The form that a question is in a branch, or an Open for the first comparison that is open."""
    if not isinstance(question, Question):
        raise BadQuestion("question")
    if not tells_truths(truths, question):
        raise BadTest("truths")
    if not isinstance(branch, Branch):
        raise BadForm("branch")
    for name in question.names:
        if name not in branch.names:
            raise NoTable(name)
    return form_in(question, truths, branch)


def tells_truths(value, question):
    """Whether any value is a dict that tells the truth of each condition of a question."""
    if not isinstance(value, dict):
        return False
    texts = [str(condition) for condition in question.conditions]
    return all([text in value and is_truth(value[text]) for text in texts])


def is_truth(value):
    """Whether any value is True, False or None."""
    return value is None or isinstance(value, bool)


def unit_bounds(many):
    """The bounds that each of so many numbers is at least 0."""
    return tuple([Bound(unit_form(at, many)) for at in range(many)])


def form_in(question, truths, branch):
    """The same as form_of, for arguments that are known to fit."""
    forms = forms_in(question.parts, truths, branch)
    if isinstance(forms, Open):
        return forms
    if isinstance(question, Bent):
        return bent_form(question, forms[0], forms[1], branch)
    if isinstance(question, Chosen):
        return chosen_form(question, forms[0], truths, branch)
    return straight_form(question, forms, branch.names)


def forms_in(questions, truths, branch):
    """The list of the forms that some questions are in a branch, or an Open for the first comparison that is open."""
    forms = []
    for question in questions:
        form = form_in(question, truths, branch)
        if isinstance(form, Open):
            return form
        forms.append(form)
    return forms


def bent_form(question, one, other, branch):
    """The form of a question that compares two parts, out of their forms."""
    rest = rest_form(one, other)
    is_more = branch.side(rest)
    return Open(rest) if is_more is None else compared_form(question, one, other, is_more)


def compared_form(question, one, other, is_more):
    """The same if it is known whether the first form is at least, or at most, the second one."""
    if isinstance(question, Lesser):
        return other if is_more else one
    if isinstance(question, Greater):
        return one if is_more else other
    return rest_form(one, other) if is_more else nought_form(len(one))


def chosen_form(question, form, truths, branch):
    """The form of a question with a test, out of the form of its part."""
    truth = truth_in(question.test, truths, branch)
    if isinstance(truth, Open):
        return truth
    is_kept = (truth is True) == isinstance(question, Where)
    return form if is_kept else nought_form(len(form))


def straight_form(question, forms, names):
    """The form of a question that compares nothing, out of the forms of its parts, over the tables of these names."""
    if isinstance(question, Both):
        return sum_form(forms[0], forms[1])
    if isinstance(question, Times):
        return times_form(question.number, forms[0])
    if isinstance(question, Table):
        return unit_form(names.index(question.name), len(names))
    return nought_form(len(names))


def truth_in(test, truths, branch):
    """The truth of a test in a branch, or an Open for the first comparison that is open."""
    if isinstance(test, Condition):
        return truths[str(test)]
    if isinstance(test, Has):
        return standing_in(test.asked, truths, branch)
    if isinstance(test, Not):
        truth = truth_in(test.test, truths, branch)
        return truth if isinstance(truth, Open) else truth_of_opposite(truth)
    one = truth_in(test.one, truths, branch)
    if isinstance(one, Open):
        return one
    other = truth_in(test.other, truths, branch)
    if isinstance(other, Open):
        return other
    return truth_of_both(one, other) if isinstance(test, And) else truth_of_either(one, other)


def standing_in(question, truths, branch):
    """Whether a row stands in the answer of a question in a branch, or an Open."""
    form = form_in(question, truths, branch)
    if isinstance(form, Open):
        return form
    stands = branch.stands(form)
    return Open(minus_form(form)) if stands is None else stands
