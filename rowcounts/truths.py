"""Tests of rows: true, false or unknown."""

from rowcounts.basics import is_integer, is_name, is_value, merged_texts, ordered_texts
from rowcounts.errors import BadCounts, BadName, BadNumber, BadQuestion, BadRow, BadTest, NoColumn, NoTable
from rowcounts.marks import AnyQuestion


class Test:
    """The base of all tests; it is not made itself."""

    def __init__(self, text, size, columns, names, conditions):
        self._text = text
        self._size = size
        self._columns = columns
        self._names = names
        self._conditions = conditions

    @property
    def columns(self):
        """All columns in the test, ascending."""
        return self._columns

    @property
    def names(self):
        """All table names in the test, ascending."""
        return self._names

    @property
    def conditions(self):
        """All unlike conditions in the test, ascending by their texts."""
        return self._conditions

    @property
    def size(self):
        """How many operators its questions have; each Has counts, too."""
        return self._size

    def truth(self, values, counts=None):
        """True, False or None (unknown) for a row with these values and counts."""
        check_told(self, values, {} if counts is None else counts)
        return self.known(values, {} if counts is None else counts)

    def __call__(self, values, counts=None):
        return self.truth(values, counts) is True

    def __and__(self, other):
        return And(self, other)

    def __or__(self, other):
        return Or(self, other)

    def __invert__(self):
        return Not(self)

    def __eq__(self, other):
        # Texts are enough: unlike tests have unlike texts.
        return isinstance(other, Test) and self._text == other._text

    def __str__(self):
        return str(self._text)


class Condition(Test):
    """The base of the tests that look at one value; it is not made itself."""

    def __init__(self, column, text):
        Test.__init__(self, text, 0, (column,), (), (self,))
        self.column = column

    def filled_by(self, parts):
        """The condition itself: it has no table names."""
        return self


class Below(Condition):
    """The value in a column is less than a number."""

    def __init__(self, column, number):
        check_comparison(column, number)
        Condition.__init__(self, column, f"{column} < {number}")
        self.number = number

    def known(self, values, counts):
        """The truth for a row that is known to have the column."""
        value = values[self.column]
        return None if value is None else value < self.number


class UpTo(Condition):
    """The value in a column is at most a number."""

    def __init__(self, column, number):
        check_comparison(column, number)
        Condition.__init__(self, column, f"{column} <= {number}")
        self.number = number

    def known(self, values, counts):
        """The truth for a row that is known to have the column."""
        value = values[self.column]
        return None if value is None else value <= self.number


class Equals(Condition):
    """The value in a column is a number."""

    def __init__(self, column, number):
        check_comparison(column, number)
        Condition.__init__(self, column, f"{column} = {number}")
        self.number = number

    def known(self, values, counts):
        """The truth for a row that is known to have the column."""
        value = values[self.column]
        return None if value is None else value == self.number


class Missing(Condition):
    """The value in a column is NULL."""

    def __init__(self, column):
        if not is_name(column):
            raise BadName(column)
        Condition.__init__(self, column, f"{column} null")

    def known(self, values, counts):
        """The truth for a row that is known to have the column."""
        return values[self.column] is None


class Has(Test):
    """The row stands in the answer of a question."""

    def __init__(self, question):
        if not isinstance(question, AnyQuestion):
            raise BadQuestion("question")
        Test.__init__(
            self, f"has {question}", 1 + question.size, question.columns, question.names, question.conditions,
        )
        self.asked = question

    def known(self, values, counts):
        """The truth for a row that is known to have all columns and tables."""
        return self.asked.number_at(values, counts) > 0

    def filled_by(self, parts):
        """The same with questions in the place of table names."""
        return Has(self.asked.filled_by(parts))


class And(Test):
    """Both tests are true."""

    def __init__(self, one, other):
        check_both(one, other)
        Test.__init__(
            self, f"( {one} and {other} )", one.size + other.size, merged_texts(one.columns, other.columns),
            merged_texts(one.names, other.names), merged_conditions(one.conditions, other.conditions),
        )
        self.one = one
        self.other = other

    def known(self, values, counts):
        """The truth for a row that is known to have all columns and tables."""
        return truth_of_both(self.one.known(values, counts), self.other.known(values, counts))

    def filled_by(self, parts):
        """The same with questions in the place of table names."""
        return And(self.one.filled_by(parts), self.other.filled_by(parts))


class Or(Test):
    """At least one of two tests is true."""

    def __init__(self, one, other):
        check_both(one, other)
        Test.__init__(
            self, f"( {one} or {other} )", one.size + other.size, merged_texts(one.columns, other.columns),
            merged_texts(one.names, other.names), merged_conditions(one.conditions, other.conditions),
        )
        self.one = one
        self.other = other

    def known(self, values, counts):
        """The truth for a row that is known to have all columns and tables."""
        return truth_of_either(self.one.known(values, counts), self.other.known(values, counts))

    def filled_by(self, parts):
        """The same with questions in the place of table names."""
        return Or(self.one.filled_by(parts), self.other.filled_by(parts))


class Not(Test):
    """A test is false."""

    def __init__(self, test):
        if not isinstance(test, Test) or isinstance(test, Not):
            raise BadTest("test")
        Test.__init__(self, f"not {test}", test.size, test.columns, test.names, test.conditions)
        self.test = test

    def known(self, values, counts):
        """The truth for a row that is known to have all columns and tables."""
        return truth_of_opposite(self.test.known(values, counts))

    def filled_by(self, parts):
        """The same with questions in the place of table names."""
        return Not(self.test.filled_by(parts))

    def __invert__(self):
        return self.test


def truth_of_both(one, other):
    """The truth of two tests put together by and."""
    if one is False or other is False:
        return False
    return None if one is None or other is None else True


def truth_of_either(one, other):
    """The truth of two tests put together by or."""
    if one is True or other is True:
        return True
    return None if one is None or other is None else False


def truth_of_opposite(truth):
    """The truth of the opposite of a test."""
    return None if truth is None else not truth


def truth_of_test(test, truths):
    """The truth of a test, out of those of its conditions and its Has, which a dict tells by their texts."""
    if isinstance(test, (Condition, Has)):
        return truths[str(test)]
    if isinstance(test, Not):
        return truth_of_opposite(truth_of_test(test.test, truths))
    one, other = truth_of_test(test.one, truths), truth_of_test(test.other, truths)
    return truth_of_both(one, other) if isinstance(test, And) else truth_of_either(one, other)


def unlike_conditions(conditions):
    """The tuple of the unlike ones of some conditions, ascending by their texts."""
    if len(conditions) < 2:
        return tuple(conditions)
    by_text = {str(condition): condition for condition in conditions}
    return tuple([by_text[text] for text in ordered_texts(list(by_text))])


def merged_conditions(one, other):
    """The same for two tuples, each of them unlike and ascending; most often one of them is empty."""
    if not other:
        return one
    return unlike_conditions([*one, *other]) if one else other


def check_comparison(column, number):
    """Refuse what cannot be the column and the number of a condition."""
    if not is_name(column):
        raise BadName(column)
    if not is_integer(number):
        raise BadNumber(number)


def check_both(one, other):
    """Refuse two values that are not both tests."""
    if not isinstance(one, Test):
        raise BadTest("one")
    if not isinstance(other, Test):
        raise BadTest("other")


def check_told(asked, values, counts):
    """Refuse values and counts of a row that a test or a question cannot be asked of."""
    if not are_values(values):
        raise BadRow("values")
    if not are_counts(counts):
        raise BadCounts("counts")
    for column in asked.columns:
        if column not in values:
            raise NoColumn(column)
    for name in asked.names:
        if name not in counts:
            raise NoTable(name)


def are_values(value):
    """Whether any value is a dict from columns to values."""
    if not isinstance(value, dict):
        return False
    return all([is_name(column) and is_value(value[column]) for column in value])


def are_counts(value):
    """Whether any value is a dict from table names to integers from 0 on."""
    if not isinstance(value, dict):
        return False
    return all([is_name(name) and is_integer(value[name]) and value[name] >= 0 for name in value])
