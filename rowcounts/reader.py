"""Bases, stores and plans, read from their texts.

Lines are told as tuples, which begin with their first words, and made into what they tell when all words can stand.
"""

from rowcounts.bags import Bag, pairs_at
from rowcounts.bases import MOST_TABLES, Base
from rowcounts.basics import MOST_VALUES
from rowcounts.errors import BadText
from rowcounts.parsing import expect_end, name_at
from rowcounts.plans import Plan
from rowcounts.rewrites import Rewrite, rewrite_trees
from rowcounts.rules import rule_of, rule_tree
from rowcounts.stores import Store
from rowcounts.words import last_tree, question_of

BASE_WORDS = ("base", "table")

STORE_WORDS = ("base", "table", "rule", "watch")

PLAN_WORDS = ("plan", "rewrite")


def read_base(text):
    """The base with this text."""
    return base_of(lines_told(text, BASE_WORDS))


def read_store(text):
    """A store with this text, without deeds."""
    told = lines_told(text, STORE_WORDS)
    base = base_of(told)
    rules = [rule_of(line[1]) for line in told if line[0] == "rule"]
    store = Store(base, *rules)
    for line in told:
        if line[0] == "watch":
            store.watch(line[1], question_of(line[2]))
    return store.twin()


def read_plan(text):
    """A plan with this text, without deeds."""
    told = lines_told(text, PLAN_WORDS)
    question = question_of(told[0][1])
    rewrites = [Rewrite(question_of(line[1]), question_of(line[2])) for line in told[1:]]
    return Plan(question, *rewrites)


def base_of(told):
    """The base of its lines."""
    bags = {}
    for line in told:
        if line[0] == "table":
            pairs = line[2]
            bags[line[1]] = Bag(*pairs)
    return Base.of(told[0][1], bags)


def lines_told(text, order):
    """A list of all lines of a text, whose first words stand in this order, the first of them just once."""
    if not isinstance(text, str):
        raise BadText(0, 0)
    told = []
    for at, line in enumerate(text.split("\n")):
        told.append(line_told(at, line.split(" "), told, order))
    return told


def line_told(at, words, told, order):
    """The line at an index, behind those that are told."""
    if not can_begin(words[0], told, order):
        raise BadText(at, 0)
    try:
        return told_line(words, told)
    except BadText as error:
        raise BadText(at, error.word)


def can_begin(word, told, order):
    """Whether a line behind those that are told can begin with a word."""
    if not told:
        return word == order[0]
    if word not in order[1:] or order.index(word) < order.index(told[-1][0]):
        return False
    return word != "table" or len(told) <= MOST_TABLES


def told_line(words, told):
    """The line of these words, of which the first one can stand."""
    word = words[0]
    if word == "base":
        return word, columns_told(words)
    if word == "table":
        name, width = name_told(words, told), len(told[0][1])
        return word, name, pairs_at(words, 2, width, width)
    if word == "rule":
        tree, after = rule_tree(words, 1)
        expect_end(words, after)
        return word, tree
    if word == "rewrite":
        pattern, replacement = rewrite_trees(words, 1)
        return word, pattern, replacement
    if word == "watch":
        title = name_told(words, told)
        return word, title, last_tree(words, 2)
    return word, last_tree(words, 1)


def columns_told(words):
    """The tuple of the columns of a base."""
    columns = (name_behind(words, 1, None),)
    while len(columns) < MOST_VALUES and len(columns) + 1 < len(words):
        columns = (*columns, name_behind(words, len(columns) + 1, columns[-1]))
    expect_end(words, MOST_VALUES + 1)
    return columns


def name_told(words, told):
    """The name in a line, which is greater than that in the line ahead, if this begins with the same word."""
    ahead = told[-1]
    return name_behind(words, 1, ahead[1] if ahead[0] == words[0] else None)


def name_behind(words, at, ahead):
    """The name at an index, greater than another one or None."""
    name = name_at(words, at)
    if ahead is not None and name <= ahead:
        raise BadText(0, at)
    return name
