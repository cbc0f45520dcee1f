"""Rewrites: a question may be turned where a pattern fits."""

from rowcounts.copies import copied
from rowcounts.errors import BadQuestion, BadRewrite, NoFit, Unlike
from rowcounts.judge import Agreed, alike
from rowcounts.parsing import expect_end, words_of
from rowcounts.questions import Chosen, Question, Table, Times
from rowcounts.truths import Condition, Has, Not
from rowcounts.words import question_of, two_trees


class Rewrite:
    """A pattern, whose table names are blanks, and what may stand in its place."""

    def __init__(self, pattern, replacement):
        if not isinstance(pattern, Question):
            raise BadRewrite("pattern")
        if not isinstance(replacement, Question):
            raise BadRewrite("replacement")
        if not all([name in pattern for name in replacement.names]):
            raise BadRewrite("blank")
        self._verdict = alike(pattern, replacement)
        self.pattern = pattern
        self.replacement = replacement

    @classmethod
    def read(cls, text):
        """The rewrite with this text."""
        words = words_of(text)
        pattern, replacement = rewrite_trees(words, 0)
        return cls(question_of(pattern), question_of(replacement))

    @property
    def verdict(self):
        """A new paper, equal to what alike told of both sides when the rewrite was made."""
        return copied(self._verdict)

    @property
    def is_right(self):
        """Whether both sides are alike."""
        return isinstance(self._verdict, Agreed)

    def back(self):
        """The rewrite with both sides exchanged."""
        return Rewrite(self.replacement, self.pattern)

    def fits(self, question, place):
        """A dict from the blanks to the questions with which the pattern is the part at a place, or None."""
        check_question(question)
        return blanks_of(self.pattern, question[place])

    def places(self, question):
        """The places of a question at which the pattern fits, in the order of all its places."""
        check_question(question)
        for place in question.places():
            if blanks_of(self.pattern, question[place]) is not None:
                yield place

    def done(self, question, place):
        """The question with the replacement, its blanks filled, at a place."""
        check_question(question)
        part = question[place]
        if not self.is_right:
            raise Unlike(self.verdict)
        blanks = blanks_of(self.pattern, part)
        if blanks is None:
            raise NoFit(place)
        return question.put(place, self.replacement.filled(blanks))

    def __eq__(self, other):
        if not isinstance(other, Rewrite):
            return False
        return self.pattern == other.pattern and self.replacement == other.replacement

    def __str__(self):
        return f"{self.pattern} -> {self.replacement}"


def check_question(question):
    """Refuse any value that is no question."""
    if not isinstance(question, Question):
        raise BadQuestion("question")


def rewrite_trees(words, at):
    """The trees of both sides of the rewrite whose words begin at an index and end with the last one."""
    pattern, replacement, after = two_trees(words, at, "->")
    expect_end(words, after)
    return pattern, replacement


def blanks_of(pattern, question):
    """A dict from the blanks to the questions with which a pattern is a question, or None."""
    blanks = {}
    return blanks if fits_with(pattern, question, blanks) else None


def fits_with(pattern, question, blanks):
    """Whether a pattern fits a question, the blanks that are known standing for the same; tells the new ones."""
    if isinstance(pattern, Table):
        return stands_for(pattern.name, question, blanks)
    if not are_of_a_kind(pattern, question):
        return False
    if isinstance(pattern, Times) and pattern.number != question.number:
        return False
    if not all([fits_with(part, other, blanks) for part, other in zip(pattern.parts, question.parts)]):
        return False
    return not isinstance(pattern, Chosen) or fits_test(pattern.test, question.test, blanks)


def fits_test(pattern, test, blanks):
    """The same for the tests in a pattern and in a question."""
    if isinstance(pattern, Condition):
        return pattern == test
    if not are_of_a_kind(pattern, test):
        return False
    if isinstance(pattern, Has):
        return fits_with(pattern.asked, test.asked, blanks)
    if isinstance(pattern, Not):
        return fits_test(pattern.test, test.test, blanks)
    return fits_test(pattern.one, test.one, blanks) and fits_test(pattern.other, test.other, blanks)


def are_of_a_kind(one, other):
    """Whether two questions, or two tests, are of the same class."""
    return one.__class__.__name__ == other.__class__.__name__


def stands_for(name, question, blanks):
    """Whether a blank can stand for a question; from now on it does."""
    if name not in blanks:
        blanks[name] = question
    return blanks[name] == question
