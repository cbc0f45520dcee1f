"""Limits: how much a question can change while one of its tables grows, as its parts tell it.

Most often samples tell that it does change so much; then nothing else need be looked at.
"""

from rowcounts.questions import Bent, Both, Chosen, Lesser, Rest, Table, Times, Where
from rowcounts.truths import Has

# Stands for all numbers from it on, and for no limit.
ENDLESS = 10


def limits_of(question, name):
    """How much more often, and how much less often, a question tells a row, at most, for each one more in a table."""
    if isinstance(question, Table):
        return (1 if question.name == name else 0), 0
    if isinstance(question, Chosen):
        return chosen_limits(question, name)
    if isinstance(question, Times):
        more, less = limits_of(question.part, name)
        return capped(question.number * more), capped(question.number * less)
    if not isinstance(question, (Both, Bent)):
        return 0, 0
    more, less = limits_of(question.one, name)
    other_more, other_less = limits_of(question.other, name)
    if isinstance(question, Both):
        return capped(more + other_more), capped(less + other_less)
    if isinstance(question, Rest):
        return capped(more + other_less), capped(less + other_more)
    return max(int(more), int(other_more)), max(int(less), int(other_less))


def capped(number):
    """A number, or endless if it is not below that."""
    return min(int(number), ENDLESS)


def chosen_limits(question, name):
    """The same for a question with a test: if the test can turn, the whole part can come or go."""
    more, less = limits_of(question.part, name)
    if name not in question.test.names:
        return more, less
    if not isinstance(question.test, Has):
        return ENDLESS, ENDLESS
    test_more, test_less = limits_of(question.test.asked, name)
    comes, goes = test_more > 0, test_less > 0
    if not isinstance(question, Where):
        comes, goes = goes, comes
    elif is_within(question.part, str(question.test.asked)):
        return more, less
    return (ENDLESS if comes else more), (ENDLESS if goes else less)


def is_within(question, text):
    """Whether it is plain that a question tells no row that the question with a text does not tell."""
    if str(question) == text:
        return True
    if isinstance(question, (Rest, Times, Chosen)):
        return is_within(question.parts[0], text)
    within = [is_within(part, text) for part in question.parts]
    return any(within) if isinstance(question, Lesser) else within != [] and all(within)
