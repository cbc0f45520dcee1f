"""The least examples: the Parted with the least counts."""

from rowcounts.doubts import can_part_at_great, first_parting, small_samples
from rowcounts.errors import TooMany
from rowcounts.judge import Parted
from rowcounts.judgements import judgement_of
from rowcounts.samples import Samples

SMALL_SUM = 2

MOST_SUM = 12


def least_parted(one, other, *rules):
    """The least Parted of two questions, or None if one never tells a row more often."""
    judgement = judgement_of(one, other, rules)
    found = small_parted(judgement)
    if found is not None or not can_part_at_great(judgement):
        return found
    found = great_parted(judgement)
    if found is None:
        raise TooMany("counts", MOST_SUM)
    return found


def shows_least(one, other, paper, *rules):
    """Whether any value is the Parted that least_parted tells."""
    judgement = judgement_of(one, other, rules)
    return isinstance(paper, Parted) and paper == least_of(judgement)


def least_of(judgement):
    """The least Parted of a judgement whose counts do not add up to more than the most, or None."""
    found = small_parted(judgement)
    return great_parted(judgement) if found is None else found


def small_parted(judgement):
    """The same if its counts add up to 1 or 2; no questions part without any counts."""
    samples = small_samples(judgement.tables)
    found = [(sort, first_parting(judgement, sort.known_values, samples, False)) for sort in judgement.unlike_sorts]
    for most in (len(judgement.tables), len(samples.noughts)):
        for sort, at in found:
            if at is not None and at < most:
                return Parted(sort.row, samples.counts_at(at))
    return None


def great_parted(judgement):
    """The same if its counts add up to more."""
    sorts, many = judgement.unlike_sorts, len(judgement.tables)
    for total in range(SMALL_SUM + 1, MOST_SUM + 1):
        rows = counts_of_sum(total, many)
        samples = Samples(judgement.tables, [[row[at] for row in rows] for at in range(many)], len(rows))
        for sort in sorts:
            at = first_parting(judgement, sort.known_values, samples, False)
            if at is not None:
                return Parted(sort.row, samples.counts_at(at))
    return None


def counts_of_sum(total, many):
    """A list of all tuples of so many numbers from 0 on that add up to a total, ascending."""
    if many == 0:
        return [()] if total == 0 else []
    return [(first, *rest) for first in range(total + 1) for rest in counts_of_sum(total - first, many - 1)]
