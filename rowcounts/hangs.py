"""How the answer of a question hangs on one of its tables, on all bases."""

from rowcounts.cells import inner_cell, some_points, whole_cell
from rowcounts.doubts import Outlook, can_differ, can_part
from rowcounts.errors import BadQuestion, NoTable
from rowcounts.forms import rest_form, times_form, value_of
from rowcounts.judgements import check_size_of, judgement_of, judgement_without_rules
from rowcounts.limits import limits_of
from rowcounts.questions import Chosen, Empty, Question, Table
from rowcounts.samples import Samples, numbers_on
from rowcounts.truths import Has

MOST_TABLES = 3

MOST_OPERATORS = 5

MOST_TIMES = 9

# Samples are so great, beside the one row more, that what comes or goes as a whole is told at once.
MANY_ROWS = 40

# Some samples have nearly equal numbers in all tables: what one row more turns, it turns there.
NEAR_COLUMNS = (
    (120, 121, 120, 121, 120, 121, 120, 121), (120, 120, 121, 121, 120, 120, 121, 121),
    (120, 120, 120, 120, 121, 121, 121, 121),
)

NEW_NAMES = ("new", "newer", "newest", "news")


def helps(question, name):
    """Whether rows more in a table never make a question tell some row less often."""
    more = with_more(question, name)
    return is_never_more(question, more)


def harms(question, name):
    """Whether rows more in a table never make a question tell some row more often."""
    more = with_more(question, name)
    return is_never_more(more, question)


def plays_part(question, name):
    """Whether some bases that differ in a table alone have unlike answers."""
    more = with_more(question, name)
    return can_differ(judgement_without_rules(question, more))


def gain(question, name):
    """How much more often, at most, a question tells a row for each one more in a table; None if above 9."""
    check_hanging(question, name)
    return steepest(question, name, 1) if is_steady(question) else greatest_step(question, name, 1)


def loss(question, name):
    """How much less often, at most, a question tells a row for each one more in a table; None if above 9."""
    check_hanging(question, name)
    return steepest(question, name, -1) if is_steady(question) else greatest_step(question, name, -1)


def never_any(question):
    """Whether a question has no row in any base."""
    check_question(question)
    check_size_of(question, MOST_TABLES, MOST_OPERATORS)
    return is_never_more(question, Empty())


def same_rows(one, other):
    """Whether two questions have the same rows in all bases, however often."""
    if not isinstance(one, Question):
        raise BadQuestion("one")
    if not isinstance(other, Question):
        raise BadQuestion("other")
    first = judgement_of(one // Has(other), Empty(), ())
    last = judgement_of(other // Has(one), Empty(), ())
    return not can_part(first) and not can_part(last)


def check_question(question):
    """Refuse any value that is no question."""
    if not isinstance(question, Question):
        raise BadQuestion("question")


def check_hanging(question, name):
    """Refuse any values that are no question of the sizes and one of its tables."""
    check_question(question)
    if name not in question:
        raise NoTable(name)
    check_size_of(question, MOST_TABLES, MOST_OPERATORS)


def with_more(question, name):
    """The question with the rows of a new table put into one of its tables; refuses any wrong values."""
    check_hanging(question, name)
    return question.filled({name: Table(name) + Table(new_name(question))})


def new_name(question):
    """The name of a table that the question does not have."""
    names = [name for name in NEW_NAMES if name not in question.names]
    return names[0]


def is_never_more(one, other):
    """Whether one question, of any size, never tells a row more often than another one."""
    return not can_part(judgement_without_rules(one, other))


def is_steady(question):
    """Whether a question has no Has, so that its answers do not jump."""
    if isinstance(question, Chosen) and question.test.size > 0:
        return False
    return all([is_steady(part) for part in question.parts])


def steepest(question, name, sign):
    """The gain of a question without Has, or with the sign -1 its loss.

    It is straight in each part of all counts, and does not jump between them: so its steepest part tells.
    """
    at, most = question.names.index(name), 0
    for sort in judgement_without_rules(question, Empty()).unlike_sorts:
        cell = inner_cell(len(question.names))
        for form, _ in Outlook(question.names, sort.known_values).over(question, cell):
            most = max(most, int(sign * form[at]))
    return most if most <= MOST_TIMES else None


def greatest_step(question, name, sign):
    """The gain of a question, or with the sign -1 its loss."""
    least = step_at_samples(question, name, sign)
    if least > MOST_TIMES:
        return None
    more, less = limits_of(question, name)
    if least == (more if sign > 0 else less):
        return least
    grown = with_more(question, name)
    one, other = (grown, question) if sign > 0 else (question, grown)
    judgement = judgement_without_rules(one, other)
    for sort in judgement.unlike_sorts:
        least = least_in_parts(judgement, new_name(question), sort.known_values, least)
        if least > MOST_TIMES:
            return None
    return least


def step_at_samples(question, name, sign):
    """The greatest change of a question, upwards or with the sign -1 downwards, for one row more at some samples."""
    points, found = some_points(len(question.names)), 0
    columns = [[*[MANY_ROWS * point[at] for point in points], *NEAR_COLUMNS[at]] for at in range(len(question.names))]
    grown = [[number + 1 for number in column] if other == name else column
             for other, column in zip(question.names, columns)]
    ahead, behind = [Samples(question.names, told, len(columns[0])) for told in (columns, grown)]
    for sort in judgement_without_rules(question, Empty()).unlike_sorts:
        ones, others = [numbers_on(question, sort.known_values, samples) for samples in (ahead, behind)]
        steps = [int(sign * (other - one)) for one, other in zip(ones, others)]
        found = max(found, int(max([int(step) for step in steps])))
    return found


def least_in_parts(judgement, new, values, least):
    """The least number, from one on, with which one is never more than other and so many times the new table.

    It need not be right if it is more than the most. Each number that is too small is left behind at counts where it
    is: so the last one is the least.
    """
    outlook = Outlook(judgement.tables, values)
    unit = outlook.units[new]
    for one, other, part in outlook.both_over(judgement.one, judgement.other, whole_cell(len(judgement.tables))):
        above = rest_form(one, other)
        steeper = part.part_above(rest_form(above, times_form(least, unit)))
        while steeper is not None and least <= MOST_TIMES:
            point = steeper.points[0]
            least = least_over(value_of(above, point), value_of(unit, point))
            steeper = part.part_above(rest_form(above, times_form(least, unit)))
    return least


def least_over(difference, times):
    """The least number that times another one is not less than a difference.

    Where questions part, the new table has the row: without it they are one question.
    """
    return -(-difference // times)
