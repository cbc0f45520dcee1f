"""Questions: how often a row stands in an answer, told from its values and its counts."""

from rowcounts.bags import bag_of
from rowcounts.bases import Base, check_questions
from rowcounts.basics import is_integer, is_name, merged_texts
from rowcounts.errors import BadBase, BadName, BadNumber, BadQuestion, BadTest, NoColumn, NoPlace, NoTable, TooMany
from rowcounts.marks import AnyQuestion
from rowcounts.truths import Test, check_told, merged_conditions


class Question(AnyQuestion):
    """The base of all questions; it is not made itself."""

    MOST = 40

    def __init__(self, text, size, parts, names, columns, conditions, is_plain):
        if size > Question.MOST:
            raise TooMany("size", Question.MOST)
        self._text = text
        self._size = size
        self._parts = parts
        self._names = names
        self._columns = columns
        self._conditions = conditions
        self._is_plain = is_plain

    @property
    def names(self):
        """All table names in the question, ascending."""
        return self._names

    @property
    def columns(self):
        """All columns in the question, ascending."""
        return self._columns

    @property
    def conditions(self):
        """All unlike conditions in the question, ascending by their texts."""
        return self._conditions

    @property
    def size(self):
        """How many operators the question has, also in its tests; each Has counts, too."""
        return self._size

    @property
    def parts(self):
        """The tuple of the parts that are questions."""
        return self._parts

    @property
    def is_plain(self):
        """Whether the question has no test."""
        return self._is_plain

    def __contains__(self, x):
        return x in self._names

    def __iter__(self):
        raise TypeError("a question cannot be iterated over")

    def often(self, values, counts):
        """The number of a row with these values and counts."""
        check_told(self, values, counts)
        return self.number_at(values, counts)

    def __call__(self, base):
        if not isinstance(base, Base):
            raise BadBase("base")
        check_base(self, base)
        return bag_of({row: self.number_at(base.values_of(row), base.numbers(row)) for row in base.rows()})

    def places(self):
        """The places of all parts: a question ahead of its parts, the first part ahead of the second."""
        yield ()
        for at, part in enumerate(self._parts):
            for place in part.places():
                yield (at, *place)

    def __getitem__(self, at):
        if not has_place(self, at):
            raise NoPlace(at)
        part = self
        for step in at:
            part = part.parts[step]
        return part

    def put(self, place, part):
        """The question with another part at a place."""
        if not has_place(self, place):
            raise NoPlace(place)
        if not isinstance(part, Question):
            raise BadQuestion("part")
        return with_part(self, place, part)

    def filled(self, parts):
        """The question with questions in the place of table names, told by a dict from names."""
        check_questions(parts)
        return self.filled_by(parts)

    def filled_by(self, parts):
        """The same as filled, for a dict that is known to tell questions."""
        return self.with_parts([part.filled_by(parts) for part in self._parts])

    def __add__(self, other):
        return Both(self, other)

    def __and__(self, other):
        return Lesser(self, other)

    def __or__(self, other):
        return Greater(self, other)

    def __sub__(self, other):
        return Rest(self, other)

    def __mul__(self, other):
        return Times(other, self)

    def __mod__(self, other):
        return Where(self, other)

    def __floordiv__(self, other):
        return Unless(self, other)

    def __eq__(self, other):
        # Texts are enough: unlike questions have unlike texts.
        return isinstance(other, Question) and self._text == other._text

    def __str__(self):
        return str(self._text)


class Bare(Question):
    """The base of the questions without parts; it is not made itself."""

    def __init__(self, text, names):
        Question.__init__(self, text, 0, (), names, (), (), True)

    def with_parts(self, parts):
        """The question itself: it has no parts."""
        return self


class Pair(Question):
    """The base of the questions with two parts; it is not made itself."""

    def __init__(self, one, sign, other):
        if not isinstance(one, Question):
            raise BadQuestion("one")
        if not isinstance(other, Question):
            raise BadQuestion("other")
        Question.__init__(
            self, f"( {one} {sign} {other} )", 1 + one.size + other.size, (one, other),
            merged_texts(one.names, other.names), merged_texts(one.columns, other.columns),
            merged_conditions(one.conditions, other.conditions), one.is_plain and other.is_plain,
        )
        self.one = one
        self.other = other


class Single(Question):
    """The base of the questions with one part; it is not made itself."""

    def __init__(self, text, part):
        Question.__init__(
            self, text, 1 + part.size, (part,), part.names, part.columns, part.conditions, part.is_plain,
        )


class Straight(Question):
    """The base of the questions that compare nothing; it is not made itself."""


class Bent(Question):
    """The base of the questions that compare the numbers of their parts; it is not made itself."""


class Chosen(Question):
    """The base of the questions that look at a test; it is not made itself."""

    def __init__(self, part, word, test):
        if not isinstance(part, Question):
            raise BadQuestion("part")
        if not isinstance(test, Test):
            raise BadTest("test")
        Question.__init__(
            self, f"( {part} {word} {test} )", 1 + part.size + test.size, (part,),
            merged_texts(part.names, test.names), merged_texts(part.columns, test.columns),
            merged_conditions(part.conditions, test.conditions), False,
        )
        self.part = part
        self.test = test


class Table(Bare, Straight):
    """The number in a table."""

    def __init__(self, name):
        if not is_name(name):
            raise BadName(name)
        Bare.__init__(self, name, (name,))
        self.name = name

    def number_at(self, values, counts):
        """The number of a row that is known to have all columns and tables."""
        return counts[self.name]

    def filled_by(self, parts):
        """The question that stands in the place of the name, if there is one."""
        return parts.get(self.name, self)


class Empty(Bare, Straight):
    """No rows."""

    def __init__(self):
        Bare.__init__(self, "empty", ())

    def number_at(self, values, counts):
        """The number of a row that is known to have all columns and tables."""
        return 0


class Both(Pair, Straight):
    """The numbers of both parts together."""

    def __init__(self, one, other):
        Pair.__init__(self, one, "+", other)

    def number_at(self, values, counts):
        """The number of a row that is known to have all columns and tables."""
        return self.one.number_at(values, counts) + self.other.number_at(values, counts)

    def with_parts(self, parts):
        """The same with other parts."""
        return Both(parts[0], parts[1])


class Times(Single, Straight):
    """The number of the part, so many times."""

    def __init__(self, number, part):
        if not is_integer(number) or not 0 <= number <= 9:
            raise BadNumber(number)
        if not isinstance(part, Question):
            raise BadQuestion("part")
        Single.__init__(self, f"( {number} * {part} )", part)
        self.number = number
        self.part = part

    def number_at(self, values, counts):
        """The number of a row that is known to have all columns and tables."""
        return self.number * self.part.number_at(values, counts)

    def with_parts(self, parts):
        """The same with another part."""
        return Times(self.number, parts[0])


class Lesser(Pair, Bent):
    """The lesser number of both parts."""

    def __init__(self, one, other):
        Pair.__init__(self, one, "&", other)

    def number_at(self, values, counts):
        """The number of a row that is known to have all columns and tables."""
        return min(int(self.one.number_at(values, counts)), int(self.other.number_at(values, counts)))

    def with_parts(self, parts):
        """The same with other parts."""
        return Lesser(parts[0], parts[1])


class Greater(Pair, Bent):
    """The greater number of both parts."""

    def __init__(self, one, other):
        Pair.__init__(self, one, "|", other)

    def number_at(self, values, counts):
        """The number of a row that is known to have all columns and tables."""
        return max(int(self.one.number_at(values, counts)), int(self.other.number_at(values, counts)))

    def with_parts(self, parts):
        """The same with other parts."""
        return Greater(parts[0], parts[1])


class Rest(Pair, Bent):
    """The number of the first part less that of the second one, and at least 0."""

    def __init__(self, one, other):
        Pair.__init__(self, one, "-", other)

    def number_at(self, values, counts):
        """The number of a row that is known to have all columns and tables."""
        return max(0, self.one.number_at(values, counts) - self.other.number_at(values, counts))

    def with_parts(self, parts):
        """The same with other parts."""
        return Rest(parts[0], parts[1])


class Where(Single, Chosen):
    """The number of the part if the test is true, otherwise 0."""

    def __init__(self, part, test):
        Chosen.__init__(self, part, "where", test)

    def number_at(self, values, counts):
        """The number of a row that is known to have all columns and tables."""
        return self.part.number_at(values, counts) if self.test.known(values, counts) is True else 0

    def with_parts(self, parts):
        """The same with another part."""
        return Where(parts[0], self.test)

    def filled_by(self, parts):
        """The same with questions in the place of table names, also in the test."""
        return Where(self.part.filled_by(parts), self.test.filled_by(parts))


class Unless(Single, Chosen):
    """The number of the part if the test is not true, otherwise 0."""

    def __init__(self, part, test):
        Chosen.__init__(self, part, "unless", test)

    def number_at(self, values, counts):
        """The number of a row that is known to have all columns and tables."""
        return 0 if self.test.known(values, counts) is True else self.part.number_at(values, counts)

    def with_parts(self, parts):
        """The same with another part."""
        return Unless(parts[0], self.test)

    def filled_by(self, parts):
        """The same with questions in the place of table names, also in the test."""
        return Unless(self.part.filled_by(parts), self.test.filled_by(parts))


def check_base(question, base):
    """Refuse a base that lacks a table or a column of a question."""
    for name in question.names:
        if name not in base:
            raise NoTable(name)
    for column in question.columns:
        if column not in base.columns:
            raise NoColumn(column)


def has_place(question, place):
    """Whether any value is a place of a question."""
    if not isinstance(place, tuple):
        return False
    part = question
    for step in place:
        if not is_integer(step) or not 0 <= step < len(part.parts):
            return False
        part = part.parts[step]
    return True


def with_part(question, place, part):
    """The question with another part at a place that it has."""
    if not place:
        return part
    parts = list(question.parts)
    parts[place[0]] = with_part(parts[place[0]], place[1:], part)
    return question.with_parts(parts)
