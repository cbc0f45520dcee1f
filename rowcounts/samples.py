"""Samples: what questions tell of many rows of counts at once, for rows with some values."""

from rowcounts.questions import Both, Chosen, Lesser, Pair, Rest, Table, Times, Where
from rowcounts.truths import And, Has, Not, truth_of_both, truth_of_either, truth_of_opposite


class Samples:
    """So many rows of counts, told by one column of numbers for each table."""

    def __init__(self, names, columns, many):
        self.tables = names
        self.counted = columns
        self.by_name = dict(zip(names, columns))
        self.noughts = [0 for _ in range(many)]

    def counts_at(self, at):
        """The row of counts at an index, as a dict from the tables."""
        return {name: column[at] for name, column in zip(self.tables, self.counted)}


def numbers_on(question, values, samples):
    """A list of the numbers that a question tells of all rows of counts."""
    if isinstance(question, Table):
        return samples.by_name[question.name]
    if isinstance(question, Pair):
        ones = numbers_on(question.one, values, samples)
        return numbers_of_pair(question, ones, numbers_on(question.other, values, samples))
    if isinstance(question, Chosen):
        return numbers_chosen(question, values, samples)
    if isinstance(question, Times):
        return [question.number * number for number in numbers_on(question.part, values, samples)]
    return samples.noughts


def numbers_of_pair(question, ones, others):
    """The same for a question with two parts, out of the numbers of these."""
    if isinstance(question, Both):
        return [one + other for one, other in zip(ones, others)]
    if isinstance(question, Rest):
        return [one - other if one > other else 0 for one, other in zip(ones, others)]
    if isinstance(question, Lesser):
        return [one if one < other else other for one, other in zip(ones, others)]
    return [other if one < other else one for one, other in zip(ones, others)]


def numbers_chosen(question, values, samples):
    """The same for a question with a test."""
    is_where = isinstance(question, Where)
    if question.test.size == 0:
        is_kept = (question.test.known(values, {}) is True) == is_where
        return numbers_on(question.part, values, samples) if is_kept else samples.noughts
    truths = truths_on(question.test, values, samples)
    numbers = numbers_on(question.part, values, samples)
    return [number if (truth is True) == is_where else 0 for number, truth in zip(numbers, truths)]


def truths_on(test, values, samples):
    """A list of the truths of a test for all rows of counts."""
    if test.size == 0:
        truth = test.known(values, {})
        return [truth for _ in samples.noughts]
    if isinstance(test, Has):
        return [number > 0 for number in numbers_on(test.asked, values, samples)]
    if isinstance(test, Not):
        return [truth_of_opposite(truth) for truth in truths_on(test.test, values, samples)]
    pairs = list(zip(truths_on(test.one, values, samples), truths_on(test.other, values, samples)))
    if isinstance(test, And):
        return [truth_of_both(one, other) for one, other in pairs]
    return [truth_of_either(one, other) for one, other in pairs]
