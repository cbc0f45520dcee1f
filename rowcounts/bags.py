"""Bags: rows, each any number of times."""

from rowcounts.basics import MOST_VALUES, is_integer, is_row, ordered_rows, row_before
from rowcounts.errors import BadBag, BadNumber, BadText, TooMany
from rowcounts.parsing import expect, expect_end, is_integer_word, word_at, words_of

MOST_TIMES = 10 ** 30

MOST_ROWS = 60


class Bag:
    """A bag: each of its rows has a number above 0, all other rows have 0."""

    def __init__(self, *pairs):
        check_pairs(pairs)
        numbers = added_up(pairs)
        check_numbers(numbers)
        self._pairs = tuple([(row, numbers[row]) for row in ordered_rows(list(numbers))])
        self._numbers = numbers

    @staticmethod
    def of(rows):
        """The bag of a list or tuple of rows, each as often as it stands there."""
        if not isinstance(rows, (list, tuple)):
            raise BadBag("rows")
        pairs = [(row, 1) for row in rows]
        return Bag(*pairs)

    @staticmethod
    def read(text):
        """The bag with this text."""
        words = words_of(text)
        pairs = pairs_at(words, 0, 1, MOST_VALUES)
        return Bag(*pairs)

    @property
    def width(self):
        """How many values each row has; None without rows."""
        return len(self._pairs[0][0]) if self._pairs else None

    @property
    def whole(self):
        """All numbers together."""
        return sum([times for _, times in self._pairs])

    def often(self, row):
        """The number of any value; it is 0 for what is no row."""
        return self._numbers.get(row, 0) if is_row(row) else 0

    def __contains__(self, x):
        return self.often(x) > 0

    def __len__(self):
        return len(self._pairs)

    def __iter__(self):
        return iter(self._pairs)

    def __getitem__(self, at):
        return self._pairs[at]

    def __add__(self, other):
        check_other(self, other)
        return bag_of({row: self.often(row) + other.often(row) for row in rows_of(self, other)})

    def __and__(self, other):
        check_other(self, other)
        return bag_of({row: min(times, int(other.often(row))) for row, times in self._pairs})

    def __or__(self, other):
        check_other(self, other)
        return bag_of({row: max(self.often(row), int(other.often(row))) for row in rows_of(self, other)})

    def __sub__(self, other):
        check_other(self, other)
        return bag_of({row: max(0, times - other.often(row)) for row, times in self._pairs})

    def __mul__(self, other):
        if not is_integer(other) or not 0 <= other <= 9:
            raise BadNumber(other)
        return bag_of({row: other * times for row, times in self._pairs})

    def __rmul__(self, other):
        return self * other

    def __le__(self, other):
        check_other(self, other)
        return all([times <= other.often(row) for row, times in self._pairs])

    def __lt__(self, other):
        return self <= other and self != other

    def __ge__(self, other):
        check_other(self, other)
        return other <= self

    def __gt__(self, other):
        check_other(self, other)
        return other < self

    def __eq__(self, other):
        return isinstance(other, Bag) and self._pairs == other._pairs

    def __str__(self):
        if not self._pairs:
            return "none"
        return ", ".join([f"{times} of {row_text(row)}" for row, times in self._pairs])


def bag_of(numbers):
    """The bag of a dict from rows of one width to integers from 0 on, however great they are."""
    standing = {row: numbers[row] for row in numbers if numbers[row] > 0}
    check_numbers(standing)
    pairs = [(row, standing[row]) for row in standing]
    return Bag(*pairs)


def row_text(row):
    """The values of a row with single spaces between."""
    return " ".join(["null" if value is None else str(value) for value in row])


def check_pairs(pairs):
    """Refuse the first of some values that is no pair, or whose row is not as wide as the first one."""
    for at, pair in enumerate(pairs):
        if not is_pair(pair) or len(pair[0]) != len(pairs[0][0]):
            raise BadBag(at)


def is_pair(value):
    """Whether any value is a row with a number that it can have."""
    if not isinstance(value, tuple) or len(value) != 2:
        return False
    return is_row(value[0]) and is_times(value[1])


def is_times(value):
    """Whether any value is a number that a row can have in a bag that it stands in."""
    return is_integer(value) and 1 <= value <= MOST_TIMES


def added_up(pairs):
    """A dict from the rows of some pairs to their numbers."""
    numbers = {}
    for row, times in pairs:
        numbers[row] = numbers.get(row, 0) + times
    return numbers


def check_numbers(numbers):
    """Refuse numbers, or a number of rows, that no bag has."""
    if any([numbers[row] > MOST_TIMES for row in numbers]):
        raise TooMany("times", MOST_TIMES)
    if len(numbers) > MOST_ROWS:
        raise TooMany("rows", MOST_ROWS)


def check_other(bag, other):
    """Refuse any value that cannot be put together with a bag."""
    if not isinstance(other, Bag):
        raise BadBag("other")
    if len(bag) > 0 and len(other) > 0 and bag.width != other.width:
        raise BadBag("width")


def rows_of(one, other):
    """A list of the unlike rows of two bags."""
    return list({row: True for row, _ in [*one, *other]})


def pairs_at(words, at, least, most):
    """The pairs of the bag whose words begin at an index, its rows with so many values at least and at most."""
    if word_at(words, at) == "none":
        expect_end(words, at + 1)
        return []
    times, row, more = pair_at(words, at, None, least, most)
    pairs = [(row, times)]
    while more:
        at = at + 2 + len(row)
        times, row, more = pair_at(words, at, row, len(row), len(row))
        pairs.append((row, times))
    expect_end(words, at + 2 + len(row))
    return pairs


def pair_at(words, at, ahead, least, most):
    """The number and the row that begin at an index, behind another row or None, and whether a comma ends them."""
    times = times_at(words, at)
    expect(words, at + 1, "of")
    row, more = row_at(words, at + 2, ahead, least, most)
    return times, row, more


def times_at(words, at):
    """The number that the word at an index tells."""
    word = word_at(words, at)
    if not is_integer_word(word) or not is_times(int(word)):
        raise BadText(0, at)
    return int(word)


def row_at(words, at, ahead, least, most):
    """The row of so many values that begins at an index, behind another one or None, and whether a comma ends it."""
    row = ()
    while len(row) < most:
        here = at + len(row)
        row = (*row, value_at(words, here))
        is_ended = word_at(words, here).endswith(",")
        if not can_stand(row, ahead) or (is_ended and len(row) < least):
            raise BadText(0, here)
        if is_ended:
            return row, True
        if len(row) >= least and here + 1 == len(words):
            return row, False
    return row, False


def value_at(words, at):
    """The value that the word at an index tells, with a comma behind it or without."""
    word = word_at(words, at).removesuffix(",")
    if word == "null":
        return None
    if not is_integer_word(word):
        raise BadText(0, at)
    return int(word)


def can_stand(row, ahead):
    """Whether a row, as far as it is read, is not at or before the whole row ahead, if there is one."""
    if ahead is None:
        return True
    return row != ahead and not row_before(row, ahead)
