"""Questions and tests, read from their words.

What is read is put together as tuples at first, and made into questions and tests when all words can stand:
so a word that cannot stand is told ahead of a size that is too great.
"""

from rowcounts.basics import is_name
from rowcounts.errors import BadName, BadText
from rowcounts.parsing import expect, expect_end, is_integer_word, word_at, words_of
from rowcounts.questions import Empty, Question, Table
from rowcounts.truths import Below, Condition, Equals, Has, Missing, UpTo

MOST_OPEN = 40

FACTORS = ("0", "1", "2", "3", "4", "5", "6", "7", "8", "9")

PAIR_SIGNS = ("+", "&", "|", "-")

TEST_SIGNS = ("where", "unless")

JOINING_WORDS = ("and", "or")

COMPARING_SIGNS = ("<", "<=", "=")


def read_question(text):
    """The question with this text."""
    return question_of(last_tree(words_of(text), 0))


def read_test(text):
    """The test with this text."""
    words = words_of(text)
    tree, after = test_tree(words, 0, 0)
    expect_end(words, after)
    return test_of(tree)


def last_tree(words, at):
    """The tree of the question whose words begin at an index and end with the last one."""
    tree, after = question_tree(words, at, 0)
    expect_end(words, after)
    return tree


def two_trees(words, at, sign):
    """The trees of two questions with a sign between them, which begin at an index, and the index behind them."""
    one, middle = question_tree(words, at, 0)
    expect(words, middle, sign)
    other, after = question_tree(words, middle + 1, 0)
    return one, other, after


def question_tree(words, at, depth):
    """The tree of the question that begins at an index below so many open brackets, and the index behind it."""
    word = word_at(words, at)
    if word == "(" and depth < MOST_OPEN:
        return closed(words, bracket_tree(words, at + 1, depth + 1))
    if word == "empty":
        return Empty(), at + 1
    try:
        return Table(word), at + 1
    except BadName:
        raise BadText(0, at)


def bracket_tree(words, at, depth):
    """The same for the words of a question behind its bracket."""
    word = word_at(words, at)
    if word in FACTORS:
        expect(words, at + 1, "*")
        part, after = question_tree(words, at + 2, depth)
        return ("*", int(word), part), after
    one, after = question_tree(words, at, depth)
    sign = word_at(words, after)
    if sign in PAIR_SIGNS:
        other, end = question_tree(words, after + 1, depth)
    elif sign in TEST_SIGNS:
        other, end = test_tree(words, after + 1, depth)
    else:
        raise BadText(0, after)
    return (sign, one, other), end


def test_tree(words, at, depth):
    """The same for the test that begins at an index."""
    word = word_at(words, at)
    if word == "not" and word_at(words, at + 1) == "not":
        raise BadText(0, at + 1)
    if word == "not":
        tree, after = test_tree(words, at + 1, depth)
        return (word, tree), after
    if word == "has":
        tree, after = question_tree(words, at + 1, depth)
        return (word, tree), after
    if word == "(" and depth < MOST_OPEN:
        return closed(words, joined_tree(words, at + 1, depth + 1))
    return condition_tree(words, at)


def joined_tree(words, at, depth):
    """The same for the words of a test behind its bracket."""
    one, after = test_tree(words, at, depth)
    word = word_at(words, after)
    if word not in JOINING_WORDS:
        raise BadText(0, after)
    other, end = test_tree(words, after + 1, depth)
    return (word, one, other), end


def condition_tree(words, at):
    """The condition that begins at an index, and the index behind it."""
    column, sign, number = word_at(words, at), word_at(words, at + 1), word_at(words, at + 2)
    if not is_name(column):
        raise BadText(0, at)
    if sign == "null":
        return Missing(column), at + 2
    if sign not in COMPARING_SIGNS:
        raise BadText(0, at + 1)
    if not is_integer_word(number):
        raise BadText(0, at + 2)
    return comparison(column, sign, int(number)), at + 3


def comparison(column, sign, number):
    """The condition with these words."""
    if sign == "<":
        return Below(column, number)
    return UpTo(column, number) if sign == "<=" else Equals(column, number)


def closed(words, found):
    """A tree with the index behind the bracket that must close it, out of the index of this bracket."""
    tree, after = found
    expect(words, after, ")")
    return tree, after + 1


def question_of(tree):
    """The question of a tree."""
    if isinstance(tree, Question):
        return tree
    sign, one, other = tree
    if sign == "*":
        return question_of(other) * one
    if sign in TEST_SIGNS:
        return chosen_of(sign, question_of(one), test_of(other))
    return pair_of(sign, question_of(one), question_of(other))


def chosen_of(word, part, test):
    """The question of one part with a test."""
    return part % test if word == "where" else part // test


def pair_of(sign, one, other):
    """The question of two parts."""
    if sign == "+":
        return one + other
    if sign == "&":
        return one & other
    return one | other if sign == "|" else one - other


def test_of(tree):
    """The test of a tree."""
    if isinstance(tree, Condition):
        return tree
    if tree[0] == "not":
        return ~test_of(tree[1])
    if tree[0] == "has":
        return Has(question_of(tree[1]))
    one, other = test_of(tree[1]), test_of(tree[2])
    return one & other if tree[0] == "and" else one | other
