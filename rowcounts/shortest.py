"""Short questions: the first one that is alike another question, or that explains some numbers."""

from rowcounts.basics import is_integer, ordered_texts
from rowcounts.errors import BadCounts, BadQuestion
from rowcounts.judge import Parted, verdict_of
from rowcounts.judgements import Judgement, check_sizes
from rowcounts.kinds import kinds_of, rows_over
from rowcounts.questions import Empty, Question, Table
from rowcounts.truths import are_counts

MOST_TABLES = 3

MOST_OPERATORS = 8

SMALL_COUNTS = (0, 1, 2, 5)


def shortest(question):
    """The first short question that is alike a question on all bases, or None."""
    if not isinstance(question, Question):
        raise BadQuestion("question")
    check_sizes([question], MOST_TABLES, MOST_OPERATORS)
    samples = small_samples(question)
    for short in short_questions(question.names):
        if tells_all(short, samples):
            parted = parted_of(question, short)
            if parted is None:
                return short
            # What tells these two apart tells most of the wrong ones behind them apart, too.
            samples.append(sample_of(question, dict(parted.row), parted.counts))
    return None


def explains(samples):
    """The first short question that tells the numbers of some pairs of counts and numbers, or None."""
    check_samples(samples)
    names = ordered_texts(list(samples[0][0])) if samples else ()
    for short in short_questions(names):
        if tells_all(short, samples):
            return short
    return None


def check_samples(samples):
    """Refuse any value that is no list or tuple of pairs of counts, with the same names in all, and numbers."""
    if not isinstance(samples, (list, tuple)):
        raise BadCounts(None)
    for at, sample in enumerate(samples):
        if not is_sample(sample) or ordered_texts(list(sample[0])) != ordered_texts(list(samples[0][0])):
            raise BadCounts(at)


def is_sample(value):
    """Whether any value is a pair of counts of not too many tables and of a number."""
    if not isinstance(value, tuple) or len(value) != 2:
        return False
    counts, number = value
    return are_counts(counts) and len(counts) <= MOST_TABLES and is_integer(number) and number >= 0


def small_samples(question):
    """A list of the pairs of small counts and the number that a question tells, for each kind of rows."""
    rows = rows_over([SMALL_COUNTS for _ in question.names])
    return [sample_of(question, dict(kind.row), dict(zip(question.names, row)))
            for kind in kinds_of(question.conditions) for row in rows]


def sample_of(question, values, counts):
    """The pair of some counts and the number that a question tells for them."""
    return counts, question.number_at(values, counts)


def tells_all(short, samples):
    """Whether a question without tests tells the numbers of all pairs of counts and numbers."""
    for counts, number in samples:
        if short.number_at({}, counts) != number:
            return False
    return True


def parted_of(one, other):
    """A Parted of two questions, of any size, either way about, or None."""
    for judgement in (Judgement(one, other, []), Judgement(other, one, [])):
        found = verdict_of(judgement)
        if isinstance(found, Parted):
            return found
    return None


def short_questions(names):
    """All short questions over some table names, in their order."""
    bare = in_order([Empty(), *[Table(name) for name in names]])
    yield from bare
    single = pairs_over(bare, bare)
    yield from in_order(single)
    yield from in_order([*pairs_over(bare, single), *pairs_over(single, bare)])


def pairs_over(ones, others):
    """A list of all questions of one operator over two questions out of two lists."""
    return [made for one in ones for other in others for made in (one + other, one & other, one | other, one - other)]


def in_order(questions):
    """A list of some unlike questions, ascending by their texts."""
    by_text = {str(question): question for question in questions}
    return [by_text[text] for text in ordered_texts(list(by_text))]
