"""How the answer of a question hangs on one of its tables, on all bases."""

from rowcounts.courses import found_by_kinds
from rowcounts.errors import BadQuestion, NoTable
from rowcounts.forms import rest_form, times_form, value_of
from rowcounts.judge import Shown, leaf_or_point, parted_either_way, verdict_of
from rowcounts.judgements import Judgement, check_sizes, judgement_of
from rowcounts.questions import Empty, Question, Table
from rowcounts.truths import Has
from rowcounts.weights import Point

MOST_TABLES = 3

MOST_OPERATORS = 5

MOST_TIMES = 9

NEW_NAMES = ("new", "newer", "newest", "news")


def helps(question, name):
    """Whether rows more in a table never make a question tell some row less often."""
    more = with_more(question, name)
    return is_never_more(question, more)


def harms(question, name):
    """Whether rows more in a table never make a question tell some row more often."""
    more = with_more(question, name)
    return is_never_more(more, question)


def plays_part(question, name):
    """Whether some bases that differ in a table alone have unlike answers."""
    more = with_more(question, name)
    return parted_either_way(Judgement(question, more, [])) is not None


def gain(question, name):
    """How much more often, at most, a question tells a row for each one more in a table; None if above 9."""
    more = with_more(question, name)
    return least_times(more, question, new_table(question))


def loss(question, name):
    """How much less often, at most, a question tells a row for each one more in a table; None if above 9."""
    more = with_more(question, name)
    return least_times(question, more, new_table(question))


def never_any(question):
    """Whether a question has no row in any base."""
    check_question(question)
    check_sizes([question], MOST_TABLES, MOST_OPERATORS)
    return is_never_more(question, Empty())


def same_rows(one, other):
    """Whether two questions have the same rows in all bases, however often."""
    if not isinstance(one, Question):
        raise BadQuestion("one")
    if not isinstance(other, Question):
        raise BadQuestion("other")
    first = judgement_of(one // Has(other), Empty(), ())
    last = judgement_of(other // Has(one), Empty(), ())
    return isinstance(verdict_of(first), Shown) and isinstance(verdict_of(last), Shown)


def check_question(question):
    """Refuse any value that is no question."""
    if not isinstance(question, Question):
        raise BadQuestion("question")


def with_more(question, name):
    """The question with the rows of a new table put into one of its tables; refuses any wrong values."""
    check_question(question)
    if name not in question:
        raise NoTable(name)
    check_sizes([question], MOST_TABLES, MOST_OPERATORS)
    return question.filled({name: Table(name) + new_table(question)})


def new_table(question):
    """A table that the question does not have."""
    names = [name for name in NEW_NAMES if name not in question.names]
    return Table(names[0])


def is_never_more(one, other):
    """Whether one question, of any size, never tells a row more often than another one."""
    return isinstance(verdict_of(Judgement(one, other, [])), Shown)


def least_times(one, other, new):
    """The least n from 0 to 9 with which one is never more than other and n times the new table, or None."""
    slope = Slope(MOST_TIMES)
    found_by_kinds(Judgement(one, other, []), [one, other, new], slope)
    return None if slope.is_reached(None) else slope.least


class Slope:
    """A goal: the least number of times, up to a most, that a table must be put to a question so that it is not less.

    Each number that is too small is left behind at counts where it is: so the last one is the least.
    """

    def __init__(self, most):
        self.most = most
        self.least = 0

    def at_end(self, forms, cell):
        """Raise the number in a cell where the questions, and the table, are these forms."""
        above, new = rest_form(forms[0], forms[1]), forms[2]
        found = leaf_or_point(cell, [], rest_form(above, times_form(self.least, new)))
        while isinstance(found, Point) and self.least <= self.most:
            self.least = least_over(value_of(above, found.counts), value_of(new, found.counts))
            found = leaf_or_point(cell, [], rest_form(above, times_form(self.least, new)))

    def at_clash(self, weights):
        """In a cell without counts there is nothing to do."""

    def branched(self, form, yes, no):
        """Behind both parts of a cell there is nothing to do."""

    def is_reached(self, found):
        """Whether no number up to the most is enough."""
        return self.least > self.most


def least_over(difference, times):
    """The least number that times another one is not less than a difference.

    Where questions part, the new table has the row: without it they are one question.
    """
    return -(-difference // times)
