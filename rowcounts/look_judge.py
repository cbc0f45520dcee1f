"""Looks at the papers of judge.py: whether they are right, without a search."""

from rowcounts.basics import is_integer, is_value
from rowcounts.branches import Open, forms_in
from rowcounts.forms import Bound, is_form_of
from rowcounts.judge import Agreed, Leaf, Parted, Shown, Split
from rowcounts.judgements import judgement_of
from rowcounts.weights import are_clashing

MOST_SPLITS = 60

MOST_LEAVES = 3000

MOST_COUNT = 10 ** 30


def shows_shown(one, other, value, *rules):
    """Whether any value is a right Shown of two questions."""
    return is_right_shown(judgement_of(one, other, rules), value)


def shows_agreed(one, other, value, *rules):
    """Whether any value is a right Agreed of two questions."""
    judgement = judgement_of(one, other, rules)
    if not isinstance(value, Agreed):
        return False
    return is_right_shown(judgement, value.first) and is_right_shown(judgement.turned(), value.last)


def shows_parted(one, other, value, *rules):
    """Whether any value is a right Parted of two questions."""
    return is_right_parted(judgement_of(one, other, rules), value)


def is_right_parted(judgement, value):
    """Whether any value is a right Parted of a judgement."""
    if not isinstance(value, Parted) or not are_values_of(judgement, value.row):
        return False
    return are_counts_of(judgement, value.counts) and judgement.parts_at(dict(value.row), value.counts)


def are_values_of(judgement, row):
    """Whether any value is a tuple of pairs of just the columns of a judgement, ascending, with values."""
    if not isinstance(row, tuple) or len(row) != len(judgement.fields):
        return False
    return all([is_value_of(column, pair) for column, pair in zip(judgement.fields, row)])


def is_value_of(column, pair):
    """Whether any value is a pair of a column and a value."""
    if not isinstance(pair, tuple) or len(pair) != 2:
        return False
    return pair[0] == column and is_value(pair[1])


def are_counts_of(judgement, counts):
    """Whether any value is a dict from just the tables of a judgement to numbers that rows can have."""
    if not isinstance(counts, dict) or len(counts) != len(judgement.tables):
        return False
    return all([name in counts and is_count(counts[name]) for name in judgement.tables])


def is_count(value):
    """Whether any value is a number that a row can have."""
    return is_integer(value) and 0 <= value <= MOST_COUNT


def is_right_shown(judgement, value):
    """Whether any value is a right Shown of a judgement."""
    if not isinstance(value, Shown) or not isinstance(value.trees, tuple):
        return False
    if len(value.trees) != len(judgement.sorts):
        return False
    if not all([leaves_of(tree, MOST_SPLITS, MOST_LEAVES) <= MOST_LEAVES for tree in value.trees]):
        return False
    return all([is_right_tree(judgement, judgement.truths_of(sort), judgement.branch(), tree)
                for sort, tree in zip(judgement.sorts, value.trees)])


def leaves_of(tree, splits, most):
    """How many leaves a tree has; more than the most, however many, if there are too many or below too many Splits."""
    if not isinstance(tree, Split):
        return 1
    if splits == 0:
        return most + 1
    found = leaves_of(tree.yes, splits - 1, most)
    if found > most:
        return found
    return found + leaves_of(tree.no, splits - 1, most - found)


def is_right_tree(judgement, truths, branch, tree):
    """Whether any value is a right tree on a branch, for the truths of a kind of rows."""
    if isinstance(tree, Leaf):
        return is_right_leaf(judgement, truths, branch, tree.weights)
    if not isinstance(tree, Split) or not is_form_of(tree.form, len(judgement.tables)):
        return False
    bound = Bound(tree.form)
    if not is_right_tree(judgement, truths, branch + bound, tree.yes):
        return False
    return is_right_tree(judgement, truths, branch + ~bound, tree.no)


def is_right_leaf(judgement, truths, branch, weights):
    """Whether any value tells weights by which the bounds of a branch, or all of a judgement in it, clash."""
    many = len(judgement.tables)
    if are_clashing(branch.bounds, many, weights):
        return True
    forms = forms_in(judgement.questions, truths, branch)
    return not isinstance(forms, Open) and are_clashing(judgement.leaf_bounds(branch, forms), many, weights)
