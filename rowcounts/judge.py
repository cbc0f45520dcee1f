"""Judging: whether one question never tells a row more often than another one, on all bases that keep some rules."""

from rowcounts.branches import Open, forms_in
from rowcounts.forms import Bound, nought_form
from rowcounts.judgements import judgement_of
from rowcounts.papers import own_copy, same
from rowcounts.weights import Point, point_or_clash


class Verdict:
    """The base of the papers that judgements return; it is not made itself."""


class Shown(Verdict):
    """A paper: trees that show, kind by kind, that one question never tells a row more often than another one."""

    def __init__(self, trees):
        self.trees = own_copy(trees)

    def __bool__(self):
        return True

    def __eq__(self, other):
        return isinstance(other, Shown) and same(self.trees, other.trees)


class Agreed(Verdict):
    """A paper: two Showns, of two questions and of the same the other way about."""

    def __init__(self, first, last):
        self.first = own_copy(first)
        self.last = own_copy(last)

    def __bool__(self):
        return True

    def __eq__(self, other):
        return isinstance(other, Agreed) and same(self.first, other.first) and same(self.last, other.last)


class Parted(Verdict):
    """A paper: a row with counts that one question tells more often than another one."""

    def __init__(self, row, counts):
        self.row = own_copy(row)
        self.counts = own_copy(counts)

    def __bool__(self):
        return False

    def __eq__(self, other):
        return isinstance(other, Parted) and same(self.row, other.row) and same(self.counts, other.counts)


class Split:
    """A paper, a tree: in yes a form is at least 0, in no it is below."""

    def __init__(self, form, yes, no):
        self.form = own_copy(form)
        self.yes = own_copy(yes)
        self.no = own_copy(no)

    def __eq__(self, other):
        if not isinstance(other, Split) or not same(self.form, other.form):
            return False
        return same(self.yes, other.yes) and same(self.no, other.no)


class Leaf:
    """A paper, a tree: weights by which the bounds add up to one that holds nowhere."""

    def __init__(self, weights):
        self.weights = own_copy(weights)

    def __eq__(self, other):
        return isinstance(other, Leaf) and same(self.weights, other.weights)


def never_more(one, other, *rules):
    """A Shown that one question never tells a row more often than another one, or a Parted."""
    return verdict_of(judgement_of(one, other, rules))


def alike(one, other, *rules):
    """An Agreed that two questions tell each row equally often, or a Parted, of one and other first."""
    judgement = judgement_of(one, other, rules)
    first = verdict_of(judgement)
    if isinstance(first, Parted):
        return first
    last = verdict_of(judgement.turned())
    return last if isinstance(last, Parted) else Agreed(first, last)


def verdict_of(judgement):
    """The Shown or the Parted of a judgement, of any size."""
    trees = []
    for kind in judgement.sorts:
        inside = nought_form(len(judgement.tables))
        found = tree_on(judgement, judgement.truths_of(kind), judgement.branch(), inside)
        if isinstance(found, Point):
            return Parted(kind.row, dict(zip(judgement.tables, found.counts)))
        trees.append(found)
    return Shown(tuple(trees))


def tree_on(judgement, truths, branch, inside):
    """A right tree on a branch, which has a point inside, or else a Point of it at which the questions part."""
    forms = forms_in(judgement.questions, truths, branch)
    if isinstance(forms, Open):
        return split_on(judgement, truths, branch, inside, forms.form)
    found = point_or_clash(judgement.leaf_bounds(branch, forms), len(judgement.tables))
    return found if isinstance(found, Point) else Leaf(found.weights)


def split_on(judgement, truths, branch, inside, form):
    """The same if a comparison of this form is open."""
    bound = Bound(form)
    yes = tree_below(judgement, truths, branch + bound, inside)
    if isinstance(yes, Point):
        return yes
    no = tree_below(judgement, truths, branch + ~bound, inside)
    return no if isinstance(no, Point) else Split(form, yes, no)


def tree_below(judgement, truths, branch, inside):
    """The same on a branch whose last bound is new: a point of the branch without it may lie outside of it."""
    newest = branch[-1]
    if newest(inside):
        return tree_on(judgement, truths, branch, inside)
    found = point_or_clash(branch.bounds, len(judgement.tables))
    if isinstance(found, Point):
        return tree_on(judgement, truths, branch, found.counts)
    return Leaf(found.weights)
