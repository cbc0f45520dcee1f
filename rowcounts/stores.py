"""Stores: live bases, whose rules hold behind each deed, and the answers to watched questions."""

from rowcounts.bags import MOST_TIMES, Bag, bag_of, check_numbers
from rowcounts.bases import Base
from rowcounts.basics import is_integer, is_name, is_row_of, ordered_rows, ordered_texts
from rowcounts.errors import (
    AtRow, BadName, BadNumber, BadQuestion, BadRow, BadRule, BadStore, Breaks, NoDeed, NoRow, NoTable,
)
from rowcounts.questions import Question
from rowcounts.rules import Rule
from rowcounts.trials import Trial


class Behind:
    """What a store is behind a deed: it never changes, so going back is taking the one ahead.

    For each question of the rules' pairs, and for each title, it has the numbers of the rows in the answer.
    """

    def __init__(self, bags, demanded, live, word, ahead):
        self.bags = bags
        self.demanded = demanded
        self.live = live
        self.word = word
        self.ahead = ahead
        self.many = 0 if ahead is None else ahead.many + 1


class Store:
    """A base that is changed, row by row, and keeps its rules."""

    def __init__(self, base, *rules):
        check_store(base, rules)
        self._columns = base.columns
        self._rules = rules
        bags = {name: base[name] for name in base}
        told = rows_told(base.columns, bags, list(base.rows()))
        demanded = [demanded_behind(rule, [({}, {}) for _ in rule.pairs], told) for rule in rules]
        self.state = Behind(bags, demanded, {}, None, None)

    @property
    def base(self):
        """The base as it stands."""
        return Base.of(self._columns, self.state.bags)

    @property
    def rules(self):
        """The rules that hold."""
        return self._rules

    @property
    def titles(self):
        """The titles under which answers are kept, ascending."""
        return ordered_texts(list(self.state.live))

    @property
    def deeds(self):
        """How many deeds can be taken back."""
        return self.state.many

    def __contains__(self, x):
        return x in tuple(self.state.bags)

    def __getitem__(self, at):
        if at not in self:
            raise NoTable(at)
        return self.state.bags[at]

    def __setitem__(self, at, worth):
        self.set_bag(at, worth)

    def __len__(self):
        return len(self.state.bags)

    def __iter__(self):
        raise TypeError("a store cannot be iterated over")

    def put(self, name, row, times=1):
        """So many rows more in a table."""
        bag = self[name]
        check_row(row, len(self._columns))
        check_room(bag, row, times)
        self._turn("put", {name: bag + Bag((row, times))}, [row])

    def take(self, name, row, times=1):
        """So many rows less in a table."""
        bag = self[name]
        check_row(row, len(self._columns))
        if not is_integer(times) or times < 1:
            raise BadNumber(times)
        if bag.often(row) < times:
            raise NoRow(row)
        self._turn("take", {name: bag - Bag((row, times))}, [row])

    def move(self, row, one, other):
        """One row goes from a table to another one, or to the same."""
        source, goal = self[one], self[other]
        check_row(row, len(self._columns))
        if row not in source:
            raise NoRow(row)
        bags = {}
        if one != other:
            check_room(goal, row, 1)
            bags = {one: source - Bag((row, 1)), other: goal + Bag((row, 1))}
        self._turn("move", bags, [row])

    def set_bag(self, name, bag):
        """Another bag in the place of a table's."""
        before = self[name]
        if not isinstance(bag, Bag) or bag.width not in (None, len(self._columns)):
            raise BadStore("bag")
        rows = {row: True for row, _ in [*before, *bag]}
        self._turn("set", {name: bag}, ordered_rows(list(rows)))

    def _turn(self, word, bags, rows):
        """Do a deed: some tables have other bags, which are unlike at some rows, ascending, alone."""
        now = self.state
        bags = {**now.bags, **bags}
        told = rows_told(self._columns, bags, rows)
        live = {title: (question, numbers_behind(question, numbers, told))
                for title, (question, numbers) in now.live.items()}
        demanded = [demanded_behind(rule, answers, told) for rule, answers in zip(self._rules, now.demanded)]
        self.state = Behind(bags, demanded, live, word, now)

    def answer(self, question):
        """The bag that a question tells of the base."""
        if not isinstance(question, Question):
            raise BadQuestion("question")
        return question(self.base)

    def watch(self, title, question):
        """Keep the answer of a question under a title from now on."""
        if not is_name(title):
            raise BadName(title)
        numbers = {row: times for row, times in self.answer(question)}
        self._watch("watch", {**self.state.live, title: (question, numbers)})

    def unwatch(self, title):
        """Keep no answer under a title any longer."""
        check_title(self, title)
        self._watch("unwatch", {name: self.state.live[name] for name in self.titles if name != title})

    def _watch(self, word, live):
        """Do a deed: other answers are kept from now on."""
        live = {title: live[title] for title in ordered_texts(list(live))}
        self.state = Behind(self.state.bags, self.state.demanded, live, word, self.state)

    def watched(self, title):
        """The bag that is kept under a title."""
        check_title(self, title)
        _, numbers = self.state.live[title]
        return bag_of(numbers)

    def changes(self):
        """For titles and rows, both ascending, how many more rows an answer has behind the last deed."""
        found = turned_rows(self.state)
        for title, row, number in found:
            yield title, row, number

    def undo(self):
        """Take back the last deed; tells its word."""
        if self.state.ahead is None:
            raise NoDeed()
        word = self.state.word
        self.state = self.state.ahead
        return word

    def trial(self):
        """What a with statement takes: behind the block the store is as it was ahead of it."""
        return Trial(self)

    def tried(self, work):
        """What a function tells of the store, which is as ahead of the call behind it."""
        with self.trial():
            return work(self)

    def attempt(self, work):
        """What a function tells of the store, which is as ahead of the call if that raises an error."""
        failed = self.state
        try:
            found = work(self)
            failed = None
        finally:
            if failed is not None:
                self.state = failed
        return found

    def twin(self):
        """An equal store with nothing to take back, which goes its own way."""
        made = Store(Base(self._columns))
        made._rules = self._rules
        made.state = Behind(self.state.bags, self.state.demanded, self.state.live, None, None)
        return made

    def followed(self):
        """A dict from the titles to the questions whose answers are kept."""
        return {title: self.state.live[title][0] for title in self.titles}

    def __eq__(self, other):
        if not isinstance(other, Store) or self._columns != other._columns or self._rules != other._rules:
            return False
        return self.state.bags == other.state.bags and self.followed() == other.followed()


def check_store(base, rules):
    """Refuse any values that a store cannot begin with."""
    if not isinstance(base, Base):
        raise BadStore("base")
    for at, rule in enumerate(rules):
        if not isinstance(rule, Rule):
            raise BadRule(at)
    for rule in rules:
        row = rule.broken_at(base)
        if row is not None:
            raise Breaks(rule) from AtRow(row)


def check_row(row, width):
    """Refuse any value that is no row of so many values."""
    if not is_row_of(row, width):
        raise BadRow("row")


def check_room(bag, row, times):
    """Refuse any value that is no number of times that a row can be put into a bag."""
    if not is_integer(times) or times < 1 or bag.often(row) + times > MOST_TIMES:
        raise BadNumber(times)


def check_title(store, title):
    """Refuse any value that is no title of a store."""
    if title not in store.titles:
        raise NoTable(title)


def rows_told(columns, bags, rows):
    """A list of some rows, each with its values and its counts."""
    return [(row, dict(zip(columns, row)), {name: bags[name].often(row) for name in bags}) for row in rows]


def numbers_behind(question, numbers, told):
    """The numbers of an answer with those of some rows told anew; refuses numbers that no bag has."""
    found = {row: numbers[row] for row in numbers}
    for row, values, counts in told:
        found[row] = question.number_at(values, counts)
    found = {row: found[row] for row in found if found[row] > 0}
    check_numbers(found)
    return found


def demanded_behind(rule, answers, told):
    """The answers of the pairs of a rule with the numbers of some rows, ascending, told anew; they keep the rule."""
    found = [(numbers_behind(one, first, told), numbers_behind(other, second, told))
             for (one, other), (first, second) in zip(rule.pairs, answers)]
    for row, _, _ in told:
        if any([one.get(row, 0) > other.get(row, 0) for one, other in found]):
            raise Breaks(rule) from AtRow(row)
    return found


def turned_rows(state):
    """A list of the titles, rows and differences by which the answers behind a deed are unlike those ahead of it."""
    if state.ahead is None or state.word in ("watch", "unwatch"):
        return []
    return [(title, row, number) for title in state.live for row, number in differences(state, title)]


def differences(state, title):
    """A list of pairs of a row and how many more of it the answer under a title has, ascending, none with 0."""
    before, now = state.ahead.live[title][1], state.live[title][1]
    rows = ordered_rows(list({**before, **now}))
    told = [(row, now.get(row, 0) - before.get(row, 0)) for row in rows]
    return [(row, number) for row, number in told if number != 0]
