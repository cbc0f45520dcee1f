"""The words of a text, and which of them can stand."""

from rowcounts.basics import is_name
from rowcounts.errors import BadText

MOST_DIGITS = 60


def words_of(text):
    """The words of any value; what is no string has no words that can stand."""
    if not isinstance(text, str):
        raise BadText(0, 0)
    return text.split(" ")


def word_at(words, at):
    """The word at an index; behind the last word the empty word, which can stand nowhere."""
    return words[at] if at < len(words) else ""


def expect(words, at, word):
    """Refuse any other word at an index."""
    if word_at(words, at) != word:
        raise BadText(0, at)


def expect_end(words, at):
    """Refuse any word at an index."""
    if at < len(words):
        raise BadText(0, at)


def name_at(words, at):
    """The name of a table or a column at an index."""
    word = word_at(words, at)
    if not is_name(word):
        raise BadText(0, at)
    return word


def is_integer_word(word):
    """Whether a word is an integer as str writes it, and short enough to be read."""
    digits = word.removeprefix("-")
    if len(digits) > MOST_DIGITS or not digits.isascii() or not digits.isdigit():
        return False
    return word == "0" or not digits.startswith("0")
