"""Streams: the rows of an answer one by one, without a bound for how many rows, and how often, there are."""

from rowcounts.bags import added_up
from rowcounts.bases import Base
from rowcounts.basics import is_row_of, ordered_rows, row_before
from rowcounts.errors import BadBag, BadBase, BadQuestion, BadRow
from rowcounts.questions import Question, check_base


def stream(question, base, behind=None):
    """The rows, ascending, that stand in an answer, with their numbers; only those behind a row, if one is told."""
    check_asked(question, base, behind)
    for row in base.rows():
        if behind is None or row_before(behind, row):
            times = question.number_at(base.values_of(row), base.numbers(row))
            if times > 0:
                yield row, times


def joined(*parts):
    """The rows of some parts, ascending, the numbers of equal rows added up."""
    # All parts are read ahead of the first item: an error comes there, and later changes have no effect.
    numbers = added_up(pairs_of_parts(parts))
    for row in ordered_rows(list(numbers)):
        yield row, numbers[row]


def check_asked(question, base, behind):
    """Refuse any values that a stream cannot be made of."""
    if not isinstance(question, Question):
        raise BadQuestion("question")
    if not isinstance(base, Base):
        raise BadBase("base")
    if behind is not None and not is_row_of(behind, len(base.columns)):
        raise BadRow("behind")
    check_base(question, base)


def pairs_of_parts(parts):
    """A list of the pairs of all parts, of each of which the rows must be ascending."""
    found = []
    for at, part in enumerate(parts):
        pairs = list(part)
        for pair, after in zip(pairs, pairs[1:]):
            if not row_before(pair[0], after[0]):
                raise BadBag(at)
        found = [*found, *pairs]
    return found
