"""How the answer of a question hangs on one of its tables, on all bases."""

from rowcounts.errors import BadQuestion, NoTable
from rowcounts.judge import Shown, verdict_of
from rowcounts.judgements import Judgement, check_sizes, judgement_of
from rowcounts.questions import Empty, Question, Table
from rowcounts.truths import Has

MOST_TABLES = 3

MOST_OPERATORS = 5

MOST_TIMES = 9

NEW_NAMES = ("new", "newer", "newest", "news")


def helps(question, name):
    """Whether rows more in a table never make a question tell some row less often."""
    more = with_more(question, name)
    return is_never_more(question, more)


def harms(question, name):
    """Whether rows more in a table never make a question tell some row more often."""
    more = with_more(question, name)
    return is_never_more(more, question)


def plays_part(question, name):
    """Whether some bases that differ in a table alone have unlike answers."""
    more = with_more(question, name)
    return not (is_never_more(question, more) and is_never_more(more, question))


def gain(question, name):
    """How much more often, at most, a question tells a row for each one more in a table; None if above 9."""
    more = with_more(question, name)
    return least_times(more, question, new_table(question))


def loss(question, name):
    """How much less often, at most, a question tells a row for each one more in a table; None if above 9."""
    more = with_more(question, name)
    return least_times(question, more, new_table(question))


def never_any(question):
    """Whether a question has no row in any base."""
    check_question(question)
    check_sizes([question], MOST_TABLES, MOST_OPERATORS)
    return is_never_more(question, Empty())


def same_rows(one, other):
    """Whether two questions have the same rows in all bases, however often."""
    if not isinstance(one, Question):
        raise BadQuestion("one")
    if not isinstance(other, Question):
        raise BadQuestion("other")
    first = judgement_of(one // Has(other), Empty(), ())
    last = judgement_of(other // Has(one), Empty(), ())
    return isinstance(verdict_of(first), Shown) and isinstance(verdict_of(last), Shown)


def check_question(question):
    """Refuse any value that is no question."""
    if not isinstance(question, Question):
        raise BadQuestion("question")


def with_more(question, name):
    """The question with the rows of a new table put into one of its tables; refuses any wrong values."""
    check_question(question)
    if name not in question:
        raise NoTable(name)
    check_sizes([question], MOST_TABLES, MOST_OPERATORS)
    return question.filled({name: Table(name) + new_table(question)})


def new_table(question):
    """A table that the question does not have."""
    names = [name for name in NEW_NAMES if name not in question.names]
    return Table(names[0])


def is_never_more(one, other):
    """Whether one question, of any size, never tells a row more often than another one."""
    return isinstance(verdict_of(Judgement(one, other, [])), Shown)


def least_times(one, other, new):
    """The least n from 0 to 9 with which one is never more than other and n times the new table, or None."""
    if not is_never_more(one, other + new * MOST_TIMES):
        return None
    least, most = 0, MOST_TIMES
    while least < most:
        middle = (least + most) // 2
        if is_never_more(one, other + new * middle):
            most = middle
        else:
            least = middle + 1
    return most
