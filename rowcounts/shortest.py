"""Short questions: the first one that is alike another question, or that explains some numbers.

There are some 2,000 short questions over three tables. Here they are told by their texts and by the numbers that they
tell of some samples; those that tell the same numbers are put together. A question is made of what is left alone.
"""

from rowcounts.basics import is_integer, ordered_texts
from rowcounts.doubts import doubt_of
from rowcounts.errors import BadCounts, BadQuestion
from rowcounts.judgements import check_size_of, judgement_without_rules
from rowcounts.kinds import sorts_of
from rowcounts.questions import Question
from rowcounts.samples import Samples, numbers_on
from rowcounts.truths import are_counts
from rowcounts.words import read_question

MOST_TABLES = 3

MOST_OPERATORS = 8

# Each order of three tables, with one table that outweighs the others and without, and some tables without the row:
# unlike questions seldom tell the same of all. For each table there is a column.
SOME_COLUMNS = (
    (23, 211, 97, 61, 73, 89, 211, 23, 97, 89, 61, 73, 0, 8, 5, 1, 0, 0),
    (97, 23, 211, 89, 61, 73, 97, 211, 23, 61, 73, 89, 5, 0, 8, 0, 1, 0),
    (211, 97, 23, 73, 89, 61, 23, 97, 211, 73, 89, 61, 8, 5, 0, 0, 0, 1),
)


def shortest(question):
    """The first short question that is alike a question on all bases, or None."""
    if not isinstance(question, Question):
        raise BadQuestion("question")
    check_size_of(question, MOST_TABLES, MOST_OPERATORS)
    names = question.names
    columns = [list(column) for column in SOME_COLUMNS[:len(names)]]
    samples = Samples(names, columns, len(SOME_COLUMNS[0]))
    sorts = sorts_of(question.conditions)
    goal = numbers_on(question, sorts[0].known_values, samples)
    for sort in sorts[1:]:
        # Short questions tell the same of rows with unlike values.
        if numbers_on(question, sort.known_values, samples) != goal:
            return None
    return first_alike(question, columns, goal)


def first_alike(question, columns, goal):
    """The same, out of the numbers of each table at some samples, and those that the question tells there."""
    text = first_text(question.names, columns, goal)
    while text is not None and text != str(question):
        short = read_question(text)
        doubt = doubt_of(judgement_without_rules(question, short), True)
        if doubt is None:
            return short
        values, counts = doubt
        columns = [[*column, counts[name]] for name, column in zip(question.names, columns)]
        goal = [*goal, question.number_at(values, counts)]
        text = first_text(question.names, columns, goal)
    return None if text is None else question


def explains(samples):
    """The first short question that tells the numbers of some pairs of counts and numbers, or None."""
    check_samples(samples)
    names = ordered_texts(list(samples[0][0])) if samples else ()
    columns = [[counts[name] for counts, _ in samples] for name in names]
    text = first_text(names, columns, [number for _, number in samples])
    return None if text is None else read_question(text)


def check_samples(samples):
    """Refuse any value that is no list or tuple of pairs of counts, with the same names in all, and numbers."""
    if not isinstance(samples, (list, tuple)):
        raise BadCounts(None)
    for at, sample in enumerate(samples):
        if not is_sample(sample) or ordered_texts(list(sample[0])) != ordered_texts(list(samples[0][0])):
            raise BadCounts(at)


def is_sample(value):
    """Whether any value is a pair of counts of not too many tables and of a number."""
    if not isinstance(value, tuple) or len(value) != 2:
        return False
    counts, number = value
    return are_counts(counts) and len(counts) <= MOST_TABLES and is_integer(number) and number >= 0


def first_text(names, columns, goal):
    """The text of the first short question over some tables that tells some numbers, or None.

    For each table there is a column of its numbers.
    """
    bare = dict(zip(names, columns))
    found = [name for name in names if bare[name] == goal]
    if not any(goal):
        found.append("empty")
    if found:
        return first_of(found)
    single = single_texts(bare)
    key = tuple(goal)
    return single[key] if key in single else first_of(double_texts(bare, single, goal))


def first_of(texts):
    """The first one of some unlike texts in their order, or None."""
    return sorted([str(text) for text in texts])[0] if texts else None


def single_texts(bare):
    """A dict from the numbers that questions of one operator tell to the first text of those that tell them.

    The tables are told by a dict from their names, ascending, to their numbers. Questions that tell what a table tells,
    or nothing, are left out, if it is plain from their texts: they are never first.
    """
    found = {}
    for one in bare:
        put_single(found, f"( {one} + {one} )", [2 * number for number in bare[one]])
        for other in bare:
            pairs = list(zip(bare[one], bare[other]))
            if one != other:
                put_single(found, f"( {one} - {other} )", [more - less if more > less else 0 for more, less in pairs])
            if one < other:
                put_single(found, f"( {one} & {other} )", [low if low < high else high for low, high in pairs])
                put_single(found, f"( {one} + {other} )", [number + more for number, more in pairs])
                put_single(found, f"( {one} | {other} )", [high if low < high else low for low, high in pairs])
    return found


def put_single(found, text, numbers):
    """Put a text to such a dict, if there is none ahead of it that tells its numbers."""
    key = tuple(numbers)
    if key not in found or text < found[key]:
        found[key] = text


def double_texts(bare, single, goal):
    """A list of texts of questions of two operators that tell some numbers, the first one of all among them.

    Only a Rest need begin with a table: all others tell the same the other way about, with a text further ahead.
    """
    found = []
    for numbers in single:
        for name in bare:
            for sign in signs_to(numbers, bare[name], goal):
                found.append(f"( {single[numbers]} {sign} {name} )")
            if is_rest(bare[name], numbers, goal):
                found.append(f"( {name} - {single[numbers]} )")
    return found


def signs_to(ones, others, goal):
    """A list of the signs with which two rows of numbers tell a third one."""
    signs = ("+", "&", "|", "-")
    for one, other, number in zip(ones, others, goal):
        if number not in (0, one, other, one + other, one - other):
            return ()
        signs = [sign for sign in signs if number_of(one, sign, other) == number]
        if not signs:
            return signs
    return signs


def is_rest(ones, others, goal):
    """Whether a row of numbers is what is left of one row without those of another one."""
    for one, other, number in zip(ones, others, goal):
        if number != (one - other if one > other else 0):
            return False
    return True


def number_of(one, sign, other):
    """The number that two numbers tell with a sign between them."""
    if sign == "+":
        return one + other
    if sign == "-":
        return one - other if one > other else 0
    return one if (one < other) == (sign == "&") else other
