"""All errors of the package; their fields are kept as those of papers are."""

from rowcounts.papers import own_copy


class CountError(ValueError):
    """The base of all errors of the package."""


class BadInput(CountError):
    """An argument is not what it should be."""


class Refused(CountError):
    """The arguments are right, but what is asked cannot be done."""


class NoAnswer(CountError):
    """There is nothing to answer with, or a row stands behind another error."""


class BadBag(BadInput):
    """A bag cannot be made or put together so."""

    def __init__(self, part):
        self.part = own_copy(part)


class BadBase(BadInput):
    """What should be a base, or a part of one, is not."""

    def __init__(self, part):
        self.part = own_copy(part)


class BadBook(BadInput):
    """What should be a rule of a book is not."""

    def __init__(self, at):
        self.at = own_copy(at)


class BadBounds(BadInput):
    """What should be a bound of the right length is not."""

    def __init__(self, at):
        self.at = own_copy(at)


class BadCounts(BadInput):
    """What should tell counts does not."""

    def __init__(self, part):
        self.part = own_copy(part)


class BadForm(BadInput):
    """What should be a form, or stand beside one, does not fit."""

    def __init__(self, part):
        self.part = own_copy(part)


class BadLine(BadInput):
    """A line of a desk has a word that cannot stand."""

    def __init__(self, word):
        self.word = own_copy(word)


class BadName(BadInput):
    """What should be a name is not."""

    def __init__(self, value):
        self.value = own_copy(value)


class BadNumber(BadInput):
    """What should be a number within its bounds is not."""

    def __init__(self, value):
        self.value = own_copy(value)


class BadPlan(BadInput):
    """What should be a part of a plan is not."""

    def __init__(self, part):
        self.part = own_copy(part)


class BadQuestion(BadInput):
    """What should be a question is not."""

    def __init__(self, part):
        self.part = own_copy(part)


class BadRewrite(BadInput):
    """What should be a side of a rewrite is not."""

    def __init__(self, part):
        self.part = own_copy(part)


class BadRow(BadInput):
    """What should be a row is not."""

    def __init__(self, part):
        self.part = own_copy(part)


class BadRule(BadInput):
    """What should be a rule, or a side of one, is not."""

    def __init__(self, part):
        self.part = own_copy(part)


class BadStore(BadInput):
    """What should be a part of a store is not."""

    def __init__(self, part):
        self.part = own_copy(part)


class BadTest(BadInput):
    """What should be a test is not."""

    def __init__(self, part):
        self.part = own_copy(part)


class BadText(BadInput):
    """A text has a word that cannot stand."""

    def __init__(self, line, word):
        self.line = own_copy(line)
        self.word = own_copy(word)


class Breaks(Refused):
    """A deed would break a rule."""

    def __init__(self, rule):
        self.rule = own_copy(rule)


class NoColumn(Refused):
    """A column is lacking."""

    def __init__(self, name):
        self.name = own_copy(name)


class NoFit(Refused):
    """A rewrite does not fit at a place."""

    def __init__(self, place):
        self.place = own_copy(place)


class NoPlace(Refused):
    """A question has no such place."""

    def __init__(self, place):
        self.place = own_copy(place)


class NoRow(Refused):
    """A table has too few of a row."""

    def __init__(self, row):
        self.row = own_copy(row)


class NoTable(Refused):
    """A table is lacking."""

    def __init__(self, name):
        self.name = own_copy(name)


class TooMany(Refused):
    """There is more of something than there may be."""

    def __init__(self, what, most):
        self.what = own_copy(what)
        self.most = own_copy(most)


class Unlike(Refused):
    """Two questions are not alike."""

    def __init__(self, paper):
        self.paper = own_copy(paper)


class NoDeed(NoAnswer):
    """There is no deed to take back."""


class AtRow(NoAnswer):
    """This row is the one at which a rule is broken."""

    def __init__(self, row):
        self.row = own_copy(row)
