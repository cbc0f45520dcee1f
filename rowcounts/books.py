"""Books: some rules, all of which a base keeps or not, and what follows from them."""

from rowcounts.doubts import can_part
from rowcounts.errors import BadBook, BadRule, TooMany
from rowcounts.judge import Parted, never_more
from rowcounts.judgements import judgement_of
from rowcounts.parsing import expect, expect_end, word_at, words_of
from rowcounts.rules import Rule, rule_of, rule_tree

MOST_RULES = 8


class Book:
    """Some rules, in their order."""

    def __init__(self, *rules):
        for at, rule in enumerate(rules):
            if not isinstance(rule, Rule):
                raise BadBook(at)
        if len(rules) > MOST_RULES:
            raise TooMany("rules", MOST_RULES)
        self._rules = rules

    @classmethod
    def read(cls, text):
        """The book with this text."""
        words = words_of(text)
        rules = [rule_of(told) for told in rule_trees(words)]
        return cls(*rules)

    @property
    def pairs(self):
        """The pairs of questions of all rules, in order."""
        return tuple([pair for rule in self._rules for pair in rule.pairs])

    def __iter__(self):
        return iter(self._rules)

    def __len__(self):
        return len(self._rules)

    def __contains__(self, x):
        return x in self._rules

    def __getitem__(self, at):
        found = self._rules[at]
        return Book(*found) if isinstance(found, tuple) else found

    def __add__(self, other):
        more = rules_in(other)
        rules = [*self._rules, *more]
        return Book(*rules)

    def __sub__(self, other):
        if other not in self:
            raise BadBook(None)
        rules = [rule for rule in self._rules if rule != other]
        return Book(*rules)

    def keeps(self, base):
        """Whether a base keeps all rules."""
        return self.first_broken(base) is None

    def first_broken(self, base):
        """The index of the first rule that a base breaks, with the first row at which it does, or None."""
        for at, rule in enumerate(self._rules):
            row = rule.broken_at(base)
            if row is not None:
                return at, row
        return None

    def follows(self, rule):
        """The Showns of all pairs of a rule, under the rules of the book, or the Parted of the first that has one."""
        return following(self._rules, rule)

    def needless(self):
        """The indexes of the rules that follow from all the others, ascending."""
        return tuple([at for at in range(len(self._rules)) if follows_from_others(self._rules, at)])

    def bare(self):
        """The book that is left when, from the last one on, each rule is dropped that follows from those left."""
        left = list(self._rules)
        for at in reversed(range(len(self._rules))):
            if follows_from_others(left, at):
                left = without(left, at)
        return Book(*left)

    def __eq__(self, other):
        return isinstance(other, Book) and self._rules == other._rules

    def __str__(self):
        return " / ".join([str(rule) for rule in self._rules] if self._rules else ["none"])


def following(rules, rule):
    """The Showns of all pairs of a rule, under some rules, or the Parted of the first pair that has one."""
    if not isinstance(rule, Rule):
        raise BadRule("rule")
    found = []
    for one, other in rule.pairs:
        verdict = never_more(one, other, *rules)
        if isinstance(verdict, Parted):
            return verdict
        found.append(verdict)
    return tuple(found)


def is_following(rules, rule):
    """Whether a rule follows from some rules."""
    for one, other in rule.pairs:
        if can_part(judgement_of(one, other, rules)):
            return False
    return True


def rules_in(value):
    """A list of the rules of a book, or of a rule alone; refuses any other value."""
    if isinstance(value, Rule):
        return [value]
    if not isinstance(value, Book):
        raise BadBook(None)
    return list(value)


def without(rules, at):
    """A list of some rules without the one at an index."""
    return [*rules[:at], *rules[at + 1:]]


def follows_from_others(rules, at):
    """Whether the rule at an index follows from all the others."""
    return is_following(without(rules, at), rules[at])


def rule_trees(words):
    """A list of the trees of all rules in the words of a book."""
    if word_at(words, 0) == "none":
        expect_end(words, 1)
        return []
    told, after = rule_tree(words, 0)
    found = [told]
    while after < len(words):
        expect(words, after, "/")
        told, after = rule_tree(words, after + 1)
        found.append(told)
    return found
