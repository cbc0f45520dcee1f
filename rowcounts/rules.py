"""Rules: of some pairs of questions the first one never tells a row more often than the second one."""

from rowcounts.bases import Base
from rowcounts.basics import row_before
from rowcounts.errors import BadBase, BadRule, BadText
from rowcounts.parsing import expect_end, word_at, words_of
from rowcounts.questions import Empty, Question
from rowcounts.truths import Has
from rowcounts.words import question_of, two_trees

RULE_WORDS = ("within", "alike", "apart", "inside")


class Rule:
    """The base of all rules; it is not made itself."""

    def __init__(self, word, one, other, pairs):
        self._text = f"{word} {one} ; {other}"
        self._pairs = pairs
        self.one = one
        self.other = other

    @staticmethod
    def read(text):
        """The rule with this text."""
        words = words_of(text)
        told, after = rule_tree(words, 0)
        expect_end(words, after)
        return rule_of(told)

    @property
    def pairs(self):
        """The pairs of questions of which the first one must never tell a row more often than the second one."""
        return self._pairs

    def __call__(self, base):
        return self.broken_at(base) is None

    def broken_at(self, base):
        """The first row, ascending, at which a base does not keep the rule, or None."""
        if not isinstance(base, Base):
            raise BadBase("base")
        answers = [(one(base), other(base)) for one, other in self._pairs]
        found = None
        for one, other in answers:
            row = first_above(one, other)
            if row is not None and (found is None or row_before(row, found)):
                found = row
        return found

    def __eq__(self, other):
        # Texts are enough: unlike rules have unlike texts.
        return isinstance(other, Rule) and self._text == other._text

    def __str__(self):
        return str(self._text)


class Within(Rule):
    """No row stands in one question more often than in the other one."""

    def __init__(self, one, other):
        check_sides(one, other)
        Rule.__init__(self, "within", one, other, ((one, other),))


class Alike(Rule):
    """Each row stands in both questions equally often."""

    def __init__(self, one, other):
        check_sides(one, other)
        Rule.__init__(self, "alike", one, other, ((one, other), (other, one)))


class Apart(Rule):
    """No row stands in both questions."""

    def __init__(self, one, other):
        check_sides(one, other)
        Rule.__init__(self, "apart", one, other, ((one & other, Empty()),))


class Inside(Rule):
    """Each row of one question stands in the other one."""

    def __init__(self, one, other):
        check_sides(one, other)
        Rule.__init__(self, "inside", one, other, ((one // Has(other), Empty()),))


def check_sides(one, other):
    """Refuse two values that are not both questions."""
    if not isinstance(one, Question):
        raise BadRule("one")
    if not isinstance(other, Question):
        raise BadRule("other")


def first_above(one, other):
    """The first row, ascending, that stands in one bag more often than in another one, or None."""
    for row, times in one:
        if times > other.often(row):
            return row
    return None


def rule_tree(words, at):
    """The words of the rule that begins at an index, its questions as trees, and the index behind it."""
    word = word_at(words, at)
    if word not in RULE_WORDS:
        raise BadText(0, at)
    one, other, after = two_trees(words, at + 1, ";")
    return (word, one, other), after


def rule_of(told):
    """The rule of a tree."""
    word, one, other = told[0], question_of(told[1]), question_of(told[2])
    if word == "within":
        return Within(one, other)
    if word == "alike":
        return Alike(one, other)
    return Apart(one, other) if word == "apart" else Inside(one, other)
