"""A store of plain dicts: an own reckoning of all that stores.py does."""

from anything import is_integer
from judging import pairs_told
from rowcounts.bags import Bag
from rowcounts.bases import Base
from rowcounts.errors import (
    BadName, BadNumber, BadQuestion, BadRow, BadStore, Breaks, NoColumn, NoDeed, NoRow, NoTable, TooMany,
)
from rowcounts.questions import Question
from test_truths import is_name
from trees import leaves_of, number_of

MOST = 10 ** 30


def order_of(row):
    """What a row is ordered by: NULL stands behind all integers."""
    return [(value is None, 0 if value is None else value) for value in row]


def in_order(rows):
    return sorted(rows, key=order_of)


def is_row(value, width):
    return type(value) is tuple and len(value) == width and all(item is None or is_integer(item) for item in value)


class Refusal(Exception):
    """An error that the store must raise, with the row of its cause, if it has one."""

    def __init__(self, error, row=None):
        self.error, self.row = error, row


class OwnStore:
    """Tables as dicts from rows to numbers; rules are words with two trees, watched questions are trees."""

    def __init__(self, columns, tables, rules, made_rules):
        self.columns, self.rules, self.made_rules = columns, rules, made_rules
        self.tables, self.watched = tables, {}
        self.past = []

    def snapshot(self):
        return {name: dict(bag) for name, bag in self.tables.items()}, dict(self.watched), list(self.past)

    def restore(self, kept):
        self.tables, self.watched, self.past = kept

    def rows(self, tables):
        return in_order({row for bag in tables.values() for row in bag})

    def number(self, tree, tables, row):
        counts = {name: bag.get(row, 0) for name, bag in tables.items()}
        return number_of(tree, dict(zip(self.columns, row)), counts)

    def answer(self, tree, tables):
        """The answer as a dict; refused if no bag has such numbers."""
        found = {row: self.number(tree, tables, row) for row in self.rows(tables)}
        found = {row: number for row, number in found.items() if number}
        if any(number > MOST for number in found.values()):
            raise Refusal(TooMany("times", MOST))
        if len(found) > 60:
            raise Refusal(TooMany("rows", 60))
        return found

    def done(self, word, tables):
        """Do a deed that makes these tables, or refuse it."""
        for name in tables:
            if len(tables[name]) > 60:
                raise Refusal(TooMany("rows", 60))
        for title in sorted(self.watched):
            self.answer(self.watched[title], tables)
        self.check_rules(tables)
        self.past.append((word, self.tables, self.watched))
        self.tables = tables

    def check_rules(self, tables):
        for rule, made in zip(self.rules, self.made_rules):
            answers = [(self.answer(one, tables), self.answer(other, tables)) for one, other in pairs_told(rule)]
            for row in self.rows(tables):
                if any(one.get(row, 0) > other.get(row, 0) for one, other in answers):
                    raise Refusal(Breaks(made), row)

    def need_table(self, name):
        if type(name) is not str or name not in self.tables:
            raise Refusal(NoTable(name))

    def need_row(self, row):
        if not is_row(row, len(self.columns)):
            raise Refusal(BadRow("row"))

    def turned(self, name, row, times):
        """The tables with so many rows more."""
        tables = {key: dict(bag) for key, bag in self.tables.items()}
        number = tables[name].pop(row, 0) + times
        if number:
            tables[name][row] = number
        return tables

    def put(self, name, row, times):
        self.need_table(name)
        self.need_row(row)
        if not is_integer(times) or times < 1 or self.tables[name].get(row, 0) + times > MOST:
            raise Refusal(BadNumber(times))
        self.done("put", self.turned(name, row, times))

    def take(self, name, row, times):
        self.need_table(name)
        self.need_row(row)
        if not is_integer(times) or times < 1:
            raise Refusal(BadNumber(times))
        if self.tables[name].get(row, 0) < times:
            raise Refusal(NoRow(row))
        self.done("take", self.turned(name, row, -times))

    def move(self, row, one, other):
        self.need_table(one)
        self.need_table(other)
        self.need_row(row)
        if not self.tables[one].get(row, 0):
            raise Refusal(NoRow(row))
        if one == other:
            self.done("move", self.tables)
            return
        if self.tables[other].get(row, 0) == MOST:
            raise Refusal(BadNumber(1))
        before, self.tables = self.tables, self.turned(one, row, -1)
        try:
            tables = self.turned(other, row, 1)
        finally:
            self.tables = before
        self.done("move", tables)

    def set_bag(self, name, bag):
        self.need_table(name)
        if not isinstance(bag, Bag) or bag.width not in (None, len(self.columns)):
            raise Refusal(BadStore("bag"))
        self.done("set", {**self.tables, name: dict(bag)})

    def watch(self, title, tree, made):
        if not is_name(title):
            raise Refusal(BadName(title))
        if not isinstance(made, Question):
            raise Refusal(BadQuestion("question"))
        names, columns, _ = leaves_of(tree)
        for name in sorted(names - set(self.tables)):
            raise Refusal(NoTable(name))
        for column in sorted(columns - set(self.columns)):
            raise Refusal(NoColumn(column))
        self.answer(tree, self.tables)
        self.past.append(("watch", self.tables, self.watched))
        self.watched = {**self.watched, title: tree}

    def unwatch(self, title):
        if type(title) is not str or title not in self.watched:
            raise Refusal(NoTable(title))
        self.past.append(("unwatch", self.tables, self.watched))
        self.watched = {key: tree for key, tree in self.watched.items() if key != title}

    def undo(self):
        if not self.past:
            raise Refusal(NoDeed())
        word, self.tables, self.watched = self.past.pop()
        return word

    def changes(self):
        if not self.past or self.past[-1][0] in ("watch", "unwatch"):
            return []
        before = self.past[-1][1]
        found = []
        for title in sorted(self.watched):
            one, other = self.answer(self.watched[title], before), self.answer(self.watched[title], self.tables)
            for row in in_order({*one, *other}):
                if one.get(row, 0) != other.get(row, 0):
                    found.append((title, row, other.get(row, 0) - one.get(row, 0)))
        return found

    def base(self):
        return Base.of(self.columns, {name: Bag(*bag.items()) for name, bag in self.tables.items()})

    def shown(self):
        """All that the store must tell."""
        return {
            "base": self.base(), "len": len(self.tables), "deeds": len(self.past), "titles": tuple(sorted(self.watched)),
            "bags": {name: Bag(*bag.items()) for name, bag in self.tables.items()},
            "watched": {title: Bag(*self.answer(tree, self.tables).items()) for title, tree in self.watched.items()},
            "changes": self.changes(), "rules": tuple(self.made_rules),
        }


def shown(store):
    """All that a store tells."""
    return {
        "base": store.base, "len": len(store), "deeds": store.deeds, "titles": store.titles,
        "bags": {name: store[name] for name in store.base}, "watched": {name: store.watched(name) for name in store.titles},
        "changes": list(store.changes()), "rules": store.rules,
    }
