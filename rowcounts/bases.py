"""Bases: columns, and a bag for each table name."""

from rowcounts.bags import Bag
from rowcounts.basics import MOST_VALUES, are_names, is_name, is_row_of, ordered_rows, ordered_texts
from rowcounts.errors import BadBase, BadName, BadQuestion, BadRow, NoTable, TooMany
from rowcounts.marks import AnyQuestion

MOST_TABLES = 8


class Base:
    """A base: the rows of its bags have a value for each of its columns."""

    def __init__(self, columns, **bags):
        check_columns(columns)
        check_bags(bags, len(columns))
        self._columns = columns
        self._names = ordered_texts(list(bags))
        self._bags = {name: bags[name] for name in self._names}
        self._rows = rows_of_bags(self._bags)

    @staticmethod
    def of(columns, bags):
        """The base of a dict from table names to bags."""
        check_columns(columns)
        if not isinstance(bags, dict) or not all([isinstance(name, str) for name in bags]):
            raise BadBase("bags")
        check_bags(bags, len(columns))
        return Base(columns, **bags)

    @property
    def columns(self):
        """The columns, ascending."""
        return self._columns

    @property
    def names(self):
        """The table names, ascending."""
        return self._names

    def __getitem__(self, at):
        if at not in self:
            raise NoTable(at)
        return self._bags[at]

    def __contains__(self, x):
        return x in self._names

    def __len__(self):
        return len(self._names)

    def __iter__(self):
        return iter(self._names)

    def rows(self):
        """All rows that stand in some table, ascending, each once."""
        for row in self._rows:
            yield row

    def numbers(self, row):
        """A dict from all table names to the numbers of a row."""
        check_row_of(self, row)
        return {name: self._bags[name].often(row) for name in self._names}

    def values_of(self, row):
        """A dict from the columns to the values of a row."""
        check_row_of(self, row)
        return dict(zip(self._columns, row))

    def with_bag(self, name, bag):
        """The base with another bag, or a further one."""
        if not is_name(name):
            raise BadName(name)
        bags = {**self._bags, name: bag}
        return Base.of(self._columns, bags)

    def only(self, row):
        """The base with one row alone, as often as it stands in this one."""
        check_row_of(self, row)
        numbers = self.numbers(row)
        bags = {name: Bag((row, numbers[name])) if numbers[name] > 0 else Bag() for name in numbers}
        return Base.of(self._columns, bags)

    def filled(self, parts):
        """The base whose tables are the answers on this base of the questions of a dict from names."""
        check_questions(parts)
        answers = {}
        for name in names_in(parts):
            question = parts[name]
            answers[name] = question(self)
        return Base.of(self._columns, answers)

    def __eq__(self, other):
        return isinstance(other, Base) and self._columns == other._columns and self._bags == other._bags


def check_columns(columns):
    """Refuse any value that cannot be the columns of a base."""
    if not are_names(columns, MOST_VALUES) or len(columns) == 0:
        raise BadBase("columns")


def check_bags(bags, width):
    """Refuse a dict from strings that cannot tell the tables of a base with so many columns."""
    names = ordered_texts(list(bags))
    for name in names:
        if not is_name(name):
            raise BadName(name)
    for name in names:
        if not isinstance(bags[name], Bag) or bags[name].width not in (None, width):
            raise BadBase(name)
    if len(bags) > MOST_TABLES:
        raise TooMany("tables", MOST_TABLES)


def check_row_of(base, row):
    """Refuse any value that is no row with a value for each column of a base."""
    if not is_row_of(row, len(base.columns)):
        raise BadRow("row")


def rows_of_bags(bags):
    """The tuple of all rows in the bags of a dict, ascending, each once."""
    found = {row: True for name in bags for row, _ in bags[name]}
    return tuple(ordered_rows(list(found)))


def check_questions(parts):
    """Refuse any value that is no dict, or a string in it that does not tell a question."""
    if not isinstance(parts, dict):
        raise BadQuestion("parts")
    for name in names_in(parts):
        if not isinstance(parts[name], AnyQuestion):
            raise BadQuestion(name)


def names_in(parts):
    """The keys of a dict that are strings, ascending."""
    return ordered_texts([name for name in parts if isinstance(name, str)])
