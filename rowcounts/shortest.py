"""Short questions: the first one that is alike another question, or that explains some numbers.

There are some 2,000 short questions over three tables. Here they are told by their texts and by the numbers that they
tell of some samples; those that tell the same numbers are put together. A question is made of what is left alone.
"""

from rowcounts.basics import is_integer, ordered_texts
from rowcounts.errors import BadCounts, BadQuestion
from rowcounts.judge import parted_either_way
from rowcounts.judgements import Judgement, check_sizes
from rowcounts.kinds import kinds_of
from rowcounts.questions import Question
from rowcounts.truths import are_counts
from rowcounts.words import read_question

MOST_TABLES = 3

MOST_OPERATORS = 8

SIGNS = ("+", "&", "|", "-")

# Each order of three tables, with one table that outweighs the others and without, and some tables without the row:
# unlike questions seldom tell the same of all.
SOME_COUNTS = (
    (23, 97, 211), (211, 23, 97), (97, 211, 23), (61, 89, 73), (73, 61, 89), (89, 73, 61), (211, 97, 23), (23, 211, 97),
    (97, 23, 211), (89, 61, 73), (61, 73, 89), (73, 89, 61), (0, 5, 8), (8, 0, 5), (5, 8, 0), (1, 0, 0), (0, 1, 0),
    (0, 0, 1),
)


def shortest(question):
    """The first short question that is alike a question on all bases, or None."""
    if not isinstance(question, Question):
        raise BadQuestion("question")
    check_sizes([question], MOST_TABLES, MOST_OPERATORS)
    rows = [dict(kind.row) for kind in kinds_of(question.conditions)]
    if not are_alike_rows(question, rows):
        return None
    samples = [sample_of(question, rows[0], dict(zip(question.names, counts))) for counts in SOME_COUNTS]
    text = first_text(question.names, samples)
    while text is not None:
        short = read_question(text)
        parted = parted_either_way(Judgement(question, short, []))
        if parted is None:
            return short
        samples.append(sample_of(question, dict(parted.row), parted.counts))
        text = first_text(question.names, samples)
    return None


def explains(samples):
    """The first short question that tells the numbers of some pairs of counts and numbers, or None."""
    check_samples(samples)
    names = ordered_texts(list(samples[0][0])) if samples else ()
    text = first_text(names, samples)
    return None if text is None else read_question(text)


def check_samples(samples):
    """Refuse any value that is no list or tuple of pairs of counts, with the same names in all, and numbers."""
    if not isinstance(samples, (list, tuple)):
        raise BadCounts(None)
    for at, sample in enumerate(samples):
        if not is_sample(sample) or ordered_texts(list(sample[0])) != ordered_texts(list(samples[0][0])):
            raise BadCounts(at)


def is_sample(value):
    """Whether any value is a pair of counts of not too many tables and of a number."""
    if not isinstance(value, tuple) or len(value) != 2:
        return False
    counts, number = value
    return are_counts(counts) and len(counts) <= MOST_TABLES and is_integer(number) and number >= 0


def sample_of(question, values, counts):
    """The pair of some counts and the number that a question tells for them."""
    return counts, question.number_at(values, counts)


def are_alike_rows(question, rows):
    """Whether a question tells the same of rows with unlike values, as short questions do, for a few counts."""
    for counts in SOME_COUNTS[:2]:
        told = dict(zip(question.names, counts))
        number = question.number_at(rows[0], told)
        for values in rows[1:]:
            if question.number_at(values, told) != number:
                return False
    return True


def first_text(names, samples):
    """The text of the first short question over some table names that tells the numbers of all samples, or None."""
    goal = tuple([number for _, number in samples])
    bare = {name: tuple([counts[name] for counts, _ in samples]) for name in names}
    bare["empty"] = tuple([0 for _ in samples])
    found = first_of([text for text in bare if bare[text] == goal])
    if found is not None:
        return found
    single = single_texts(bare)
    return single[goal] if goal in single else first_of(double_texts(bare, single, goal))


def first_of(texts):
    """The first one of some unlike texts in their order, or None."""
    return sorted([str(text) for text in texts])[0] if texts else None


def single_texts(bare):
    """A dict from the numbers that questions of one operator tell to the first text of those that tell them.

    The bare questions are told by a dict from their texts to their numbers.
    """
    found = {}
    for one in bare:
        for other in bare:
            for sign in SIGNS:
                text = f"( {one} {sign} {other} )"
                numbers = numbers_of(bare[one], sign, bare[other])
                if numbers not in found or text < found[numbers]:
                    found[numbers] = text
    return found


def double_texts(bare, single, goal):
    """A list of texts of questions of two operators that tell some numbers, the first one of all among them."""
    found = []
    for numbers in single:
        for text in bare:
            for sign in signs_to(numbers, bare[text], goal):
                found.append(f"( {single[numbers]} {sign} {text} )")
            for sign in signs_to(bare[text], numbers, goal):
                found.append(f"( {text} {sign} {single[numbers]} )")
    return found


def signs_to(ones, others, goal):
    """A list of the signs with which two rows of numbers tell a third one."""
    signs = SIGNS
    for one, other, number in zip(ones, others, goal):
        if number not in (0, one, other, one + other, one - other):
            return []
        signs = [sign for sign in signs if number_of(one, sign, other) == number]
        if not signs:
            return signs
    return signs


def numbers_of(ones, sign, others):
    """The row of numbers that two rows tell with a sign between them."""
    return tuple([number_of(one, sign, other) for one, other in zip(ones, others)])


def number_of(one, sign, other):
    """The number that two numbers tell with a sign between them."""
    if sign == "+":
        return one + other
    if sign == "-":
        return one - other if one > other else 0
    return one if (one < other) == (sign == "&") else other
