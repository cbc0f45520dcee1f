"""The least examples: the Parted with the least counts."""

from rowcounts.courses import truths_that_count
from rowcounts.errors import TooMany
from rowcounts.judge import Parted, Shown, verdict_of
from rowcounts.judgements import judgement_of

MOST_SUM = 12


def least_parted(one, other, *rules):
    """The least Parted of two questions, or None if one never tells a row more often."""
    judgement = judgement_of(one, other, rules)
    if isinstance(verdict_of(judgement), Shown):
        return None
    found = least_of(judgement)
    if found is None:
        raise TooMany("counts", MOST_SUM)
    return found


def shows_least(one, other, paper, *rules):
    """Whether any value is the Parted that least_parted tells."""
    judgement = judgement_of(one, other, rules)
    return isinstance(paper, Parted) and paper == least_of(judgement)


def least_of(judgement):
    """The least Parted of a judgement whose counts do not add up to more than the most, or None."""
    unlike = first_kinds(judgement)
    for total in range(MOST_SUM + 1):
        rows = counts_of_sum(total, len(judgement.tables))
        for kind in unlike:
            counts = first_parting(judgement, dict(kind.row), rows)
            if counts is not None:
                return Parted(kind.row, counts)
    return None


def first_kinds(judgement):
    """A list of the kinds of a judgement without those at which its questions tell the same as at an earlier one."""
    found = {}
    for kind in judgement.sorts:
        counting = truths_that_count(judgement.questions, judgement.truths_of(kind))
        if counting not in found:
            found[counting] = kind
    return [found[counting] for counting in found]


def first_parting(judgement, values, rows):
    """The first of some rows of counts, as a dict from the tables, at which the questions part, or None."""
    for row in rows:
        counts = dict(zip(judgement.tables, row))
        if judgement.parts_at(values, counts):
            return counts
    return None


def counts_of_sum(total, many):
    """A list of all tuples of so many numbers from 0 on that add up to a total, ascending."""
    if many == 0:
        return [()] if total == 0 else []
    return [(first, *rest) for first in range(total + 1) for rest in counts_of_sum(total - first, many - 1)]
