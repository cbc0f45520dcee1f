"""An own reckoning of judgements, over the trees of trees.py."""

import itertools

from anything import is_integer
from rowcounts.forms import Bound
from rowcounts.judge import Leaf, Parted, Shown, Split
from rowcounts.rules import Alike, Apart, Inside, Within
from test_branches import OpenAt, form_of_tree
from trees import FALSE, TRUE, UNKNOWN, leaves_of, made_of, number_of, size_of, some_question, text_of, truth_of

TRUTHS = {FALSE: False, TRUE: True, UNKNOWN: None}

RULES = {"within": Within, "alike": Alike, "apart": Apart, "inside": Inside}


def pairs_told(rule):
    """The pairs of trees of a rule, which is a word and two trees."""
    word, one, other = rule
    return {"within": [(one, other)], "alike": [(one, other), (other, one)], "apart": [(("&", one, other), ("empty",))],
            "inside": [(("unless", one, ("has", other)), ("empty",))]}[word]


def rule_made(rule):
    return RULES[rule[0]](made_of(rule[1]), made_of(rule[2]))


def conditions_in(tree):
    """The trees of all conditions in a tree, by their texts."""
    if tree[0] in ("<", "<=", "=", "null"):
        return {text_of(tree): tree}
    found = {}
    for part in tree[1:]:
        if type(part) is tuple:
            found.update(conditions_in(part))
    return found


def kinds_told(conditions):
    """Pairs of a row and truths for each kind that the trees of some conditions tell apart."""
    unlike = dict(sorted((text_of(one), one) for one in conditions))
    columns = sorted({one[1] for one in unlike.values()})
    choices = []
    for column in columns:
        near = {one[2] + step for one in unlike.values() if one[1] == column and one[0] != "null" for step in (-1, 0, 1)}
        choices.append([*(sorted(near) or [0]), None])
    found = {}
    for row in itertools.product(*choices):
        values = dict(zip(columns, row))
        truths = tuple(TRUTHS[truth_of(one, values, {})] for one in unlike.values())
        found.setdefault(truths, tuple(zip(columns, row)))
    return [(row, truths) for truths, row in found.items()]


class Case:
    """A judgement of two trees under rules, which are words with two trees."""

    def __init__(self, one, other, rules=()):
        self.one, self.other = one, other
        self.pairs = [pair for rule in rules for pair in pairs_told(rule)]
        self.trees = [*(tree for pair in self.pairs for tree in pair), one, other]
        self.names = tuple(sorted(set().union(*(leaves_of(tree)[0] for tree in self.trees))))
        self.conditions = {}
        for tree in self.trees:
            self.conditions.update(conditions_in(tree))
        self.kinds = kinds_told(self.conditions.values())
        self.columns = sorted({condition[1] for condition in self.conditions.values()})
        self.size = sum(size_of(tree) for tree in self.trees)
        self.rules = rules

    def turned(self):
        return Case(self.other, self.one, self.rules)

    def made(self):
        """The two questions and the rules."""
        return [made_of(self.one), made_of(self.other), *(rule_made(rule) for rule in self.rules)]

    def fits(self):
        """Whether the judgement is within all sizes."""
        return (len(self.names) <= 4 and self.size <= 10 and len(self.conditions) <= 3 and len(self.pairs) <= 4
                and all(size_of(tree) <= 40 for tree in self.trees))

    def parts(self, values, counts):
        """Whether a row keeps the rules and stands more often in one than in other."""
        if any(number_of(p, values, counts) > number_of(q, values, counts) for p, q in self.pairs):
            return False
        return number_of(self.one, values, counts) > number_of(self.other, values, counts)

    def small_partings(self, most):
        """All rows of kinds with counts up to a number that part the questions."""
        for row, _ in self.kinds:
            for told in itertools.product(range(most + 1), repeat=len(self.names)):
                counts = dict(zip(self.names, told))
                if self.parts(dict(row), counts):
                    yield row, counts

    def is_parted(self, value):
        """The own reckoning of shows_parted."""
        if type(value) is not Parted or type(value.row) is not tuple or type(value.counts) is not dict:
            return False
        for pair in value.row:
            if type(pair) is not tuple or len(pair) != 2 or not (pair[1] is None or is_integer(pair[1])):
                return False
        if [pair[0] for pair in value.row] != self.columns or sorted(map(str, value.counts)) != list(self.names):
            return False
        if not all(type(name) is str and is_integer(count) and 0 <= count <= 10 ** 30
                   for name, count in value.counts.items()):
            return False
        return self.parts(dict(value.row), value.counts)

    def is_shown(self, value):
        """The own reckoning of shows_shown."""
        if type(value) is not Shown or type(value.trees) is not tuple or len(value.trees) != len(self.kinds):
            return False
        units = [Bound(tuple(int(at == place) for place in range(len(self.names)))) for at in range(len(self.names))]
        for tree, (_, truths) in zip(value.trees, self.kinds):
            told = dict(zip(sorted(self.conditions), truths))
            if count_of_leaves(tree) > 3000 or not self.is_tree(tree, units, told, 0):
                return False
        return True

    def is_tree(self, tree, bounds, truths, depth):
        if type(tree) is Leaf:
            return depth <= 60 and self.is_leaf(tree.weights, bounds, truths)
        if type(tree) is not Split or type(tree.form) is not tuple or len(tree.form) != len(self.names):
            return False
        if depth >= 60 or not all(is_integer(factor) for factor in tree.form):
            return False
        bound = Bound(tree.form)
        return (self.is_tree(tree.yes, [*bounds, bound], truths, depth + 1)
                and self.is_tree(tree.no, [*bounds, ~bound], truths, depth + 1))

    def is_leaf(self, weights, bounds, truths):
        if type(weights) is not tuple or not all(is_integer(weight) and weight >= 0 for weight in weights):
            return False
        rows = [(bound.form, bound.is_strict) for bound in bounds]
        if len(weights) != len(rows):
            try:
                forms = [form_of_tree(tree, truths, self.names, bounds) for tree in self.trees]
            except OpenAt:
                return False
            rows += [(minus(forms[2 * at + 1], forms[2 * at]), False) for at in range(len(self.pairs))]
            rows.append((minus(forms[-2], forms[-1]), True))
        if len(weights) != len(rows) or not any(weight for weight, row in zip(weights, rows) if row[1]):
            return False
        return not any(sum(weight * row[0][at] for weight, row in zip(weights, rows)) for at in range(len(self.names)))


def minus(form, other):
    return tuple(a - b for a, b in zip(form, other))


def count_of_leaves(tree):
    """How many leaves a tree has; to be asked of trees that are not too deep and wide."""
    return count_of_leaves(tree.yes) + count_of_leaves(tree.no) if type(tree) is Split else 1


def some_case(dice, names="abc", tests=True, rules=0, depths=(1, 2, 3)):
    """A drawn judgement within all sizes."""
    while True:
        told = [(dice.choice(list(RULES)), some_question(dice, dice.choice([0, 0, 1]), names, tests),
                 some_question(dice, dice.choice([0, 0, 1]), names, tests)) for _ in range(rules)]
        case = Case(some_question(dice, dice.choice(depths), names, tests),
                    some_question(dice, dice.choice(depths), names, tests), told)
        if case.fits():
            return case
