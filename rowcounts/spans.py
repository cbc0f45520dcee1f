"""Spans: which forms are sums of multiples of others, reckoned in integers."""

from rowcounts.forms import first_factor, is_nought, lowest_terms, nought_form, rest_form, times_form


class Span:
    """Independent forms, each with a line: a sum of multiples of it and those ahead of it.

    In the place that leads a line, all lines behind it have 0: so forms can be told line by line. Each line knows
    the multiples that it is made of.
    """

    def __init__(self, forms):
        self.forms = ()
        self.lines = ()
        for form in forms:
            self.with_form(form)

    def with_form(self, form):
        """Take a form if it is independent of those that are taken; tells whether it is."""
        divisor, shares, left = self.told(form)
        if is_nought(left):
            return False
        self.forms = (*self.forms, form)
        line, made_of = left, (*times_form(-1, shares), divisor)
        if line[first_factor(line)] < 0:
            line, made_of = times_form(-1, line), times_form(-1, made_of)
        self.lines = (*self.lines, (first_factor(line), line, made_of))
        return True

    def told(self, form):
        """A divisor, from 1 on, by which a form is the forms as often as shares tell, and what is left over."""
        divisor, shares, left = 1, nought_form(len(self.forms)), form
        for at, line, made_of in self.lines:
            top, own = line[at], left[at]
            if own != 0:
                padded = (*made_of, *nought_form(len(shares) - len(made_of)))
                divisor = divisor * top
                shares = rest_form(times_form(top, shares), times_form(-own, padded))
                left = rest_form(times_form(top, left), times_form(own, line))
        return divisor, shares, left


def shares_of(span, form):
    """The shares and the divisor by which a form is a sum of those of a span, in lowest terms."""
    divisor, shares, _ = span.told(form)
    found = lowest_terms((divisor, *shares))
    return found[1:], found[0]


def are_independent(forms):
    """Whether no form is a sum of multiples of the others."""
    span = Span(forms)
    return len(span.forms) == len(forms)
