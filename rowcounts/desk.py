"""Desks: stores that lines change and ask.

A line is told as a tuple, which begins with its first word, and done when all its words can stand.
"""

from rowcounts.bags import times_at, value_at
from rowcounts.books import is_following
from rowcounts.doubts import can_differ, can_part_at_great
from rowcounts.errors import BadLine, BadStore, BadText, Breaks
from rowcounts.hangs import gain, loss
from rowcounts.judgements import judgement_of
from rowcounts.least import great_parted, small_parted
from rowcounts.parsing import expect, expect_end, name_at, word_at, words_of
from rowcounts.rooms import room
from rowcounts.rules import rule_of, rule_tree
from rowcounts.shortest import shortest
from rowcounts.stores import Store
from rowcounts.texts import store_text
from rowcounts.words import last_tree, question_of, two_trees

ROW_WORDS = ("put", "take")

NAME_WORDS = ("unwatch", "watched")

NAME_AND_QUESTION_WORDS = ("watch", "gain", "loss")

QUESTION_WORDS = ("ask", "short", "room")

TWO_QUESTIONS_WORDS = ("more", "alike")

LONE_WORDS = ("undo", "show")


class Desk:
    """A store of its own, which lines change and ask."""

    def __init__(self, store):
        if not isinstance(store, Store):
            raise BadStore("store")
        self._store = store.twin()
        self._width = len(store.base.columns)

    @property
    def deeds(self):
        """How many deeds can be taken back."""
        return self._store.deeds

    def say(self, line):
        """Do a line; tells its answer."""
        told = told_by(line, self._width)
        try:
            return answer_of(self._store, told)
        except Breaks as error:
            return f"broken {error.rule}"

    def __call__(self, line):
        return self.say(line)

    def run(self, *lines):
        """The answers of some lines; if one raises an error, nothing has been done."""
        return self._store.attempt(lambda store: [self.say(line) for line in lines])

    def store_now(self):
        """A store like that of the desk, with nothing to take back."""
        return self._store.twin()


def told_by(line, width):
    """The tuple of a line, over rows of so many values; refuses any other value."""
    try:
        return told_words(words_of(line), width)
    except BadText as error:
        raise BadLine(error.word)


def told_words(words, width):
    """The tuple of the words of a line."""
    word = words[0]
    if word in ROW_WORDS:
        return row_line(words, width)
    if word in NAME_WORDS:
        name = name_at(words, 1)
        expect_end(words, 2)
        return word, name
    if word in NAME_AND_QUESTION_WORDS:
        return word, name_at(words, 1), last_tree(words, 2)
    if word in QUESTION_WORDS:
        return word, last_tree(words, 1)
    if word in TWO_QUESTIONS_WORDS:
        one, other, after = two_trees(words, 1, ";")
        expect_end(words, after)
        return word, one, other
    if word == "follows":
        rule, after = rule_tree(words, 1)
        expect_end(words, after)
        return word, rule
    if word not in LONE_WORDS:
        raise BadText(0, 0)
    expect_end(words, 1)
    return (word,)


def row_line(words, width):
    """The tuple of the words of a line that puts or takes rows."""
    times = times_at(words, 1)
    expect(words, 2, "of")
    row = tuple([lone_value(words, 3 + at) for at in range(width)])
    expect(words, 3 + width, "in")
    name = name_at(words, 4 + width)
    expect_end(words, 5 + width)
    return words[0], times, row, name


def lone_value(words, at):
    """The value that the word at an index tells, without a comma behind it."""
    if word_at(words, at).endswith(","):
        raise BadText(0, at)
    return value_at(words, at)


def answer_of(store, told):
    """Do a line that is told as a tuple; tells its answer."""
    word = told[0]
    if word in ROW_WORDS or word in ("watch", "unwatch"):
        do_deed(store, told)
        return "ok"
    if word == "undo":
        return store.undo() if store.deeds > 0 else "nothing"
    if word == "show":
        return store_text(store).replace("\n", " / ")
    if word == "watched":
        return str(store.watched(told[1]))
    if word == "follows":
        return "yes" if is_following(store.rules, rule_of(told[1])) else "no"
    if word in TWO_QUESTIONS_WORDS:
        return judged(store, word, question_of(told[1]), question_of(told[2]))
    if word in QUESTION_WORDS:
        return asked_of(store, word, question_of(told[1]))
    question = question_of(told[2])
    found = gain(question, told[1]) if word == "gain" else loss(question, told[1])
    return "none" if found is None else str(found)


def do_deed(store, told):
    """Do a line that changes a store."""
    word = told[0]
    if word == "put":
        store.put(told[3], told[2], told[1])
    elif word == "take":
        store.take(told[3], told[2], told[1])
    elif word == "watch":
        store.watch(told[1], question_of(told[2]))
    else:
        store.unwatch(told[1])


def asked_of(store, word, question):
    """The answer to a line with one question."""
    if word == "ask":
        return str(store.answer(question))
    if word == "room":
        return str(room(question).rank)
    found = shortest(question)
    return "none" if found is None else str(found)


def judged(store, word, one, other):
    """The answer to a line that judges two questions under the rules of a store."""
    judgement = judgement_of(one, other, store.rules)
    if word == "alike":
        return "unlike" if can_differ(judgement) else "alike"
    least = small_parted(judgement)
    if least is None and not can_part_at_great(judgement):
        return "never"
    if least is None:
        least = great_parted(judgement)
    if least is None:
        return "far"
    values = [f"{column} {'null' if value is None else value}" for column, value in least.row]
    counts = [f"{name} {least.counts[name]}" for name in judgement.tables]
    return " ".join(["least", *values, *counts])
