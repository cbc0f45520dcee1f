"""Judging: whether one question never tells a row more often than another one, on all bases that keep some rules."""

from rowcounts.cells import is_never_below
from rowcounts.courses import found_by_kinds
from rowcounts.forms import minus_form, nought_form, rest_form, value_of
from rowcounts.judgements import judgement_of
from rowcounts.papers import own_copy, same
from rowcounts.weights import Point


class Verdict:
    """The base of the papers that judgements return; it is not made itself."""


class Shown(Verdict):
    """A paper: trees that show, kind by kind, that one question never tells a row more often than another one."""

    def __init__(self, trees):
        self.trees = own_copy(trees)

    def __bool__(self):
        return True

    def __eq__(self, other):
        return isinstance(other, Shown) and same(self.trees, other.trees)


class Agreed(Verdict):
    """A paper: two Showns, of two questions and of the same the other way about."""

    def __init__(self, first, last):
        self.first = own_copy(first)
        self.last = own_copy(last)

    def __bool__(self):
        return True

    def __eq__(self, other):
        return isinstance(other, Agreed) and same(self.first, other.first) and same(self.last, other.last)


class Parted(Verdict):
    """A paper: a row with counts that one question tells more often than another one."""

    def __init__(self, row, counts):
        self.row = own_copy(row)
        self.counts = own_copy(counts)

    def __bool__(self):
        return False

    def __eq__(self, other):
        return isinstance(other, Parted) and same(self.row, other.row) and same(self.counts, other.counts)


class Split:
    """A paper, a tree: in yes a form is at least 0, in no it is below."""

    def __init__(self, form, yes, no):
        self.form = own_copy(form)
        self.yes = own_copy(yes)
        self.no = own_copy(no)

    def __eq__(self, other):
        if not isinstance(other, Split) or not same(self.form, other.form):
            return False
        return same(self.yes, other.yes) and same(self.no, other.no)


class Leaf:
    """A paper, a tree: weights by which the bounds add up to one that holds nowhere."""

    def __init__(self, weights):
        self.weights = own_copy(weights)

    def __eq__(self, other):
        return isinstance(other, Leaf) and same(self.weights, other.weights)


def never_more(one, other, *rules):
    """A Shown that one question never tells a row more often than another one, or a Parted."""
    return verdict_of(judgement_of(one, other, rules))


def alike(one, other, *rules):
    """An Agreed that two questions tell each row equally often, or a Parted, of one and other first."""
    found = verdicts_of(judgement_of(one, other, rules), Ways(2))
    for verdict in found:
        if isinstance(verdict, Parted):
            return verdict
    return Agreed(found[0], found[1])


def verdict_of(judgement):
    """The Shown or the Parted of a judgement, of any size."""
    return verdicts_of(judgement, Ways(1))[0]


class Ways:
    """A goal: a tree, or else a Point at which the questions part, from one to other and, if asked, back.

    A Point of the first way is enough, so that nothing else need be found.
    """

    def __init__(self, many):
        self.many = many

    def at_end(self, forms, cell):
        """What is found for each way in a cell where the questions are these forms."""
        demanded = [rest_form(forms[at + 1], forms[at]) for at in range(0, len(forms) - 2, 2)]
        above = rest_form(forms[-2], forms[-1])
        return [leaf_or_point(cell, demanded, form) for form in (above, minus_form(above))[:self.many]]

    def at_clash(self, weights):
        """What is found for each way in a cell that has no counts."""
        return [Leaf(weights) for _ in range(self.many)]

    def branched(self, form, yes, no):
        """What is found for each way out of what is found where a form is at least 0, and where it is below."""
        return [branched_tree(form, tree, other) for tree, other in zip(yes, no)]

    def is_reached(self, found):
        """Whether a Point is found that is enough."""
        return isinstance(found[0], Point)


def branched_tree(form, yes, no):
    """The tree out of two, or the first Point."""
    if isinstance(yes, Point):
        return yes
    return no if isinstance(no, Point) else Split(form, yes, no)


def leaf_or_point(cell, demanded, above):
    """A Leaf that in a cell a form is never above 0 if the demanded ones are at least 0; or a Point where it is so."""
    if is_never_below(minus_form(above)):
        return Leaf((*minus_form(above), *nought_form(len(cell.sides) + len(demanded)), 1))
    for point in cell.points:
        if value_of(above, point) > 0 and all([value_of(form, point) >= 0 for form in demanded]):
            return Point(point)
    found = cell.settled_with([*demanded, above], [*nought_form(len(demanded)), 1])
    return found if isinstance(found, Point) else Leaf(found.weights)


def verdicts_of(judgement, ways):
    """A list of the verdicts for each way, or of the first one alone if it is a Parted."""
    found = found_by_kinds(judgement, ways)
    return [verdict_from(judgement, [trees[way] for trees in found]) for way in range(ways.many)]


def verdict_from(judgement, found):
    """The Shown of the trees of all kinds, or the Parted of the first kind with a Point."""
    for sort, tree in zip(judgement.sorts, found):
        if isinstance(tree, Point):
            return Parted(sort.row, dict(zip(judgement.tables, tree.counts)))
    return Shown(tuple(found))
