"""Doubts: whether a judgement has a Parted, without the trees that show that it has none.

Most judgements that have one have it at small counts; of great ones, some unlike counts are looked at, too. If there is
none, one and other are gone through as forms, part by part of all counts; and where one may be above other, the demands
are, too.
"""

from rowcounts.branches import compared_form
from rowcounts.cells import some_points, whole_cell
from rowcounts.forms import minus_form, nought_form, rest_form, sum_form, times_form, unit_form
from rowcounts.judgements import judgement_without_rules
from rowcounts.questions import Bent, Both, Chosen, Table, Times, Where
from rowcounts.samples import Samples, numbers_on
from rowcounts.truths import And, Has, Not, truth_of_both, truth_of_either, truth_of_opposite

# With more operators than this, some unlike counts are looked at ahead of all parts.
FEW_OPERATORS = 6

# For each number of tables a column of numbers for each of these: counts that add up to 1, then to 2, ascending.
# Counts twice as great as others are left out: all that is told of them is twice as great, too.
SMALL_COLUMNS = (
    (),
    ((1,),),
    ((0, 1, 1), (1, 0, 1)),
    ((0, 0, 1, 0, 1, 1), (0, 1, 0, 1, 0, 1), (1, 0, 0, 1, 1, 0)),
    (
        (0, 0, 0, 1, 0, 0, 0, 1, 1, 1), (0, 0, 1, 0, 0, 1, 1, 0, 0, 1), (0, 1, 0, 0, 1, 0, 1, 0, 1, 0),
        (1, 0, 0, 0, 1, 1, 0, 1, 0, 0),
    ),
)


def small_samples(names):
    """The counts of at most four tables that add up to 1 or 2, as columns."""
    columns = SMALL_COLUMNS[len(names)]
    return Samples(names, columns, len(columns[0]) if names else 0)


def unlike_samples(names):
    """Some unlike counts of at most four tables."""
    points = some_points(len(names))
    return Samples(names, [[point[at] for point in points] for at in range(len(names))], len(points))


def can_part(judgement):
    """Whether one can tell a row more often than other."""
    return doubt_of(judgement, False) is not None


def can_differ(judgement):
    """Whether one can tell a row more often, or less often, than other."""
    return doubt_of(judgement, True) is not None


def can_part_at_great(judgement):
    """Whether one can tell a row more often than other, if it is known that it does not at small counts."""
    return great_doubt(judgement, False) is not None


def doubt_of(judgement, is_either):
    """Values of a row and counts at which one is above other, or else, if either is asked, below; or None."""
    found = doubt_at(judgement, small_samples(judgement.tables), is_either)
    return great_doubt(judgement, is_either) if found is None else found


def great_doubt(judgement, is_either):
    """The same if it is known that there is none at small counts."""
    if str(judgement.one) == str(judgement.other):
        return None
    are_many = judgement.operators > FEW_OPERATORS
    if judgement.demands and len(judgement.unlike_sorts) > 1 and not can_without_rules(judgement, is_either, are_many):
        return None
    return unlike_doubt(judgement, is_either, are_many)


def can_without_rules(judgement, is_either, are_many):
    """Whether there is such a doubt without the demands, and without the kinds of rows that only they tell apart."""
    free = judgement_without_rules(judgement.one, judgement.other)
    if doubt_at(free, small_samples(free.tables), is_either) is not None:
        return True
    return unlike_doubt(free, is_either, are_many) is not None


def unlike_doubt(judgement, is_either, are_many):
    """Such a doubt at unlike counts, if they are to be looked at, or else in any part of all counts."""
    found = doubt_at(judgement, unlike_samples(judgement.tables), is_either) if are_many else None
    if found is not None:
        return found
    for sort in judgement.unlike_sorts:
        point = Outlook(judgement.tables, sort.known_values).parting(judgement, is_either)
        if point is not None:
            return sort.known_values, dict(zip(judgement.tables, point))
    return None


def doubt_at(judgement, samples, is_either):
    """The same at some samples."""
    for sort in judgement.unlike_sorts:
        at = first_parting(judgement, sort.known_values, samples, is_either)
        if at is not None:
            return sort.known_values, samples.counts_at(at)
    return None


def first_parting(judgement, values, samples, is_either):
    """The index of the first counts that keep the demands and at which one is above other (or below), or None."""
    ones = numbers_on(judgement.one, values, samples)
    others = numbers_on(judgement.other, values, samples)
    found = [at for at, one in enumerate(ones) if one > others[at] or is_either and one < others[at]]
    for first, last in judgement.demands:
        if not found:
            return None
        ones, others = numbers_on(first, values, samples), numbers_on(last, values, samples)
        found = [at for at in found if ones[at] <= others[at]]
    return found[0] if found else None


class Outlook:
    """Questions as forms over some tables, for rows with some values."""

    def __init__(self, names, values):
        self.known_values = values
        self.units = {name: unit_form(at, len(names)) for at, name in enumerate(names)}
        self.nought = nought_form(len(names))

    def parting(self, judgement, is_either):
        """Counts that keep the demands and at which one is above other (or below), or None."""
        for one, other, part in self.both_over(judgement.one, judgement.other, whole_cell(len(self.units))):
            above = rest_form(one, other)
            for form in (above, minus_form(above)) if is_either else (above,):
                point = self.counts_above(judgement.demands, form, part)
                if point is not None:
                    return point
        return None

    def counts_above(self, demands, form, cell):
        """Counts in a cell that keep some demands and at which a form is above 0, or None."""
        part = cell.part_above(form)
        return None if part is None else self.counts_keeping(demands, part)

    def counts_keeping(self, demands, cell):
        """Counts in a cell that keep some demands, or None."""
        if not demands:
            return cell.points[0]
        for one, other, part in self.both_over(demands[0][0], demands[0][1], cell):
            held = part.part_from(rest_form(other, one))
            if held is not None:
                found = self.counts_keeping(demands[1:], held)
                if found is not None:
                    return found
        return None

    def both_over(self, one, other, cell):
        """A list of the forms that two questions are in the parts of a cell, with these parts."""
        return [(form, more, rest) for form, part in self.over(one, cell) for more, rest in self.over(other, part)]

    def over(self, question, cell):
        """A list of the forms that a question is in the parts of a cell, with these parts."""
        if isinstance(question, Table):
            return [(self.units[question.name], cell)]
        if isinstance(question, Bent):
            return self.bent_over(question, cell)
        if isinstance(question, Both):
            found = self.both_over(question.one, question.other, cell)
            return [(sum_form(one, other), part) for one, other, part in found]
        if isinstance(question, Times):
            return [(times_form(question.number, form), part) for form, part in self.over(question.part, cell)]
        return self.chosen_over(question, cell) if isinstance(question, Chosen) else [(self.nought, cell)]

    def bent_over(self, question, cell):
        """The same for a question that compares two parts."""
        found = []
        for one, other, part in self.both_over(question.one, question.other, cell):
            for is_more, rest in part.sides_by(rest_form(one, other)):
                found.append((compared_form(question, one, other, is_more), rest))
        return found

    def chosen_over(self, question, cell):
        """The same for a question with a test."""
        is_where = isinstance(question, Where)
        found = []
        for truth, part in self.truths_over(question.test, cell):
            is_kept = (truth is True) == is_where
            found.append(self.over(question.part, part) if is_kept else [(self.nought, part)])
        return found[0] if len(found) == 1 else [pair for pairs in found for pair in pairs]

    def truths_over(self, test, cell):
        """A list of the truths of a test in the parts of a cell, with these parts."""
        if test.size == 0:
            return [(test.known(self.known_values, {}), cell)]
        if isinstance(test, Has):
            return [pair for form, part in self.over(test.asked, cell) for pair in part.standings_by(form)]
        if isinstance(test, Not):
            return [(truth_of_opposite(truth), part) for truth, part in self.truths_over(test.test, cell)]
        pairs = [(one, other, rest) for one, part in self.truths_over(test.one, cell)
                 for other, rest in self.truths_over(test.other, part)]
        if isinstance(test, And):
            return [(truth_of_both(one, other), part) for one, other, part in pairs]
        return [(truth_of_either(one, other), part) for one, other, part in pairs]
