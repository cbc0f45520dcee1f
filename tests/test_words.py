"""Promise [2] about texts, and words.py."""

import random
import unittest

from anything import Case, any_values
from rowcounts.errors import BadText, TooMany
from rowcounts.questions import Question, Table
from rowcounts.truths import Below, Equals, Has, Missing, Test, UpTo
from rowcounts.words import read_question, read_test
from test_truths import RESERVED, is_name
from trees import made_of, size_of, some_question, some_test, text_of

POOL = ["", "(", ")", "a", "x", "empty", "+", "&", "|", "-", "*", "where", "unless", "has", "not", "and", "or", "null",
        "<", "<=", "=", ">", "0", "9", "10", "-5", "05", "-0", "none", "X", "\n", "a\n"]


SIGNS = (")", "*", ";", "->", "of", "in")


def first_wrong(words, goal):
    """The first word that cannot stand, by a stack of what must come; None if all can. The goal may be a list, too."""
    stack, opened, at = [goal] if isinstance(goal, str) else goal[::-1], 0, 0
    while stack and at < len(words):
        word, top = words[at], stack.pop()
        if word == "(" and top in ("question", "test", "other test") and opened < 40:
            opened += 1
            stack += [")", "inside"] if top == "question" else [")", "test", "joining", "test"]
        elif top == "inside":
            stack += ["question", "*"] if word in tuple("0123456789") else ["sign", "question"]
            at -= 0 if stack[-1] == "*" else 1
        elif top == "question" and (word == "empty" or is_name(word)) or top == "joining" and word in ("and", "or"):
            pass
        elif top == "sign" and word in ("+", "&", "|", "-", "where", "unless"):
            stack.append("test" if word in ("where", "unless") else "question")
        elif top == "test" and word == "not":
            stack.append("other test")
        elif top in ("test", "other test") and word == "has":
            stack.append("question")
        elif top in ("test", "other test") and is_name(word):
            stack.append("comparing")
        elif top == "rule" and word in ("within", "alike", "apart", "inside"):
            stack += ["question", ";", "question"]
        elif top == "rewrite" or top == "book" and word != "none":
            stack += ["question", "->", "question"] if top == "rewrite" else ["more rules", "rule"]
            at -= 1
        elif top == "more rules" and word == "/":
            stack += ["more rules", "rule"]
        elif top == "comparing" and word in ("<", "<=", "=", "null"):
            stack += ["number"] if word != "null" else []
        elif top == "value" and word == "null" or top == "times" and is_number(word) and 1 <= int(word) <= 10 ** 30:
            pass
        elif top == "name" and is_name(word) or top == "book" and word == "none":
            pass
        elif not (top in ("number", "value") and is_number(word)) and not (top == word and top in SIGNS):
            return at
        opened -= 1 if top == word == ")" else 0
        at += 1
    return None if stack in ([], ["more rules"]) and at == len(words) else at


def is_number(word):
    digits = word[1:] if word[:1] == "-" else word
    plain = digits != "" and all(sign in "0123456789" for sign in digits)
    return plain and len(digits) <= 60 and str(int(word)) == word


class WordsCase(Case):

    def check_text(self, text, goal):
        read, kind = (read_question, Question) if goal == "question" else (read_test, Test)
        word = first_wrong(text.split(" "), goal)
        if word is not None:
            self.refused(BadText(0, word), read, text)
            return
        found = read(text)
        self.assertIsInstance(found, kind)
        self.assertEqual(str(found), text)


class ReadingTest(WordsCase):

    def test_what_is_written_is_read(self):
        dice = random.Random(17)
        for _ in range(300):
            question, test = some_question(dice, 4), some_test(dice, 4)
            for tree, read in ((question, read_question), (test, read_test)):
                if size_of(tree) <= 40:
                    made = made_of(tree)
                    self.assertEqual(read(str(made)), made)
                    self.assertEqual(str(read(text_of(tree))), text_of(tree))

    def test_by_name(self):
        self.assertEqual(read_question(text="( a + b )"), Table("a") + Table("b"))
        self.assertEqual(read_test(text="x < 5"), Below("x", 5))

    def test_each_kind(self):
        for text in ["a", "empty", "( a + b )", "( a & b )", "( a | b )", "( a - b )", "( 0 * a )", "( 9 * empty )",
                     "( a where x < 5 )", "( a unless not x null )"]:
            self.same(str(read_question(text)), text)
        a = Table("a")
        tests = {"x < 5": Below("x", 5), "x <= -5": UpTo("x", -5), "x = 0": Equals("x", 0), "x null": Missing("x"),
                 "has a": Has(a), "not has a": ~Has(a), "( x null and has a )": Missing("x") & Has(a),
                 "( x null or not ( x null or has a ) )": Missing("x") | ~(Missing("x") | Has(a))}
        for text, test in tests.items():
            self.assertEqual(read_test(text), test)

    def test_any_value_that_is_no_text(self):
        for value in any_values():
            if not isinstance(value, str):
                self.refused(BadText(0, 0), read_question, value)
                self.refused(BadText(0, 0), read_test, value)
            else:
                self.check_text(value, "question")
                self.check_text(value, "test")

    def test_told_words_of_questions(self):
        wrong = {
            "": 0, " ": 0, " a": 0, "a ": 1, "a b": 1, "A": 0, "a\n": 0, "(": 1, "( ": 1, "( )": 1, "( a": 2, "( a )": 2,
            "( a +": 3, "( a + )": 3, "( a + b": 4, "( a + b - c )": 4, "( a + b ) )": 5, "( a  + b )": 2, "+": 0,
            "( 10 * a )": 1, "( -1 * a )": 1, "( 01 * a )": 1, "( True * a )": 1, "( 2 a )": 2, "( 2 + a )": 2,
            "( 2 * 3 )": 3, "( a * 2 )": 2, "( 2 * a": 4, "( 2 * a + b )": 4, "2": 0, "( a where )": 3, "( a where": 3,
            "( a where b )": 4, "( a where has )": 4, "( a where not not x null )": 4, "( a where x < )": 5,
            "( a where x < 5": 6, "( a unless x null null )": 5, "( a and b )": 2, "( a where ( x null ) )": 6,
            "( a where ( x null + x null ) )": 6, "none": 0, "( empty + of )": 3, "x < 5": 1, "( ( a + b )": 6,
            "has a": 0, "( x null )": 2, "( a whereever x null )": 2, "( a % x null )": 2,
        }
        for text, word in wrong.items():
            self.refused(BadText(0, word), read_question, text)

    def test_told_words_of_tests(self):
        wrong = {
            "": 0, "a": 1, "x": 1, "x <": 2, "x < ": 2, "x < y": 2, "x < 5 ": 3, "x < 5 and x null": 3, "x nul": 1,
            "x null 5": 2, "x > 5": 1, "x >= 5": 1, "x == 5": 1, "x = null": 2, "x < 05": 2, "x < -0": 2, "x < +1": 2,
            "x < 1_0": 2, "x < 5.0": 2, "null null": 0, "empty null": 0, "has": 1, "has has a": 1, "has 5": 1,
            "has ( a": 3, "has ( x null )": 3, "not": 1, "not not x null": 1, "not a": 2, "not ( not x null )": 5,
            "( x null )": 3, "( x null and )": 4, "( x null and x null": 6, "( x null and x null ) ": 7,
            "( x null and x null or x null )": 6, "( has a or has ( a + b ) ) )": 11, "( not not": 2, "self null": 0,
            "x < \u00b2": 2, "x < \u0661": 2,
        }
        for text, word in wrong.items():
            self.refused(BadText(0, word), read_test, text)

    def test_names(self):
        for word in [*RESERVED, "abcdefghi", "a1", "A"]:
            if word != "empty":
                self.refused(BadText(0, 0), read_question, word)
                self.refused(BadText(0, 1), read_test, f"has {word}")
            if word not in ("not", "has"):
                self.refused(BadText(0, 0), read_test, f"{word} null")
        self.assertEqual(read_question("abcdefgh"), Table("abcdefgh"))


class ChangedWordsTest(WordsCase):

    def test_a_word_put_in_left_out_exchanged(self):
        dice = random.Random(19)
        for _ in range(60):
            question, test = some_question(dice, 3), some_test(dice, 3)
            for tree, goal in ((question, "question"), (test, "test")):
                words = text_of(tree).split(" ")
                if size_of(tree) > 38:
                    continue
                for at in range(len(words) + 1):
                    for word in dice.sample(POOL, 8):
                        self.check_text(" ".join(words[:at] + [word] + words[at:]), goal)
                        self.check_text(" ".join(words[:at] + [word] + words[at + 1:]), goal)
                    self.check_text(" ".join(words[:at] + words[at + 1:]), goal)
                    self.check_text(" ".join(words[:at]), goal)

    def test_a_word_changed(self):
        for text, goal in [("( ( 3 * a ) where not ( x < 5 or has empty ) )", "question"),
                           ("( x <= -5 and ( y null or not has ( a - b ) ) )", "test")]:
            words = text.split(" ")
            for at, word in enumerate(words):
                for changed in (word + ",", word.upper(), word[1:], word[:-1], word + word, word + "\n", "-" + word):
                    self.check_text(" ".join(words[:at] + [changed] + words[at + 1:]), goal)


class BoundsTest(WordsCase):

    def test_forty_open_brackets(self):
        def question(many):
            return "( " * many + "a" + " + b )" * many

        def test(many):
            return "( " * many + "x null" + " and y null )" * many

        self.same(str(read_question(question(40))), question(40))
        self.refused(BadText(0, 40), read_question, question(41))
        self.same(str(read_test(test(40))), test(40))
        self.refused(BadText(0, 40), read_test, test(41))
        self.refused(BadText(0, 40), read_test, "( " * 41 + "x")
        deep = Missing("x")
        for _ in range(41):
            deep = deep & Missing("y")
        self.same(str(deep), test(41))

    def test_brackets_of_questions_and_tests_count_together(self):
        ahead, behind = "( a where " + "( " * 38 + "has ", " and x null )" * 38 + " )"
        self.same(str(read_question(ahead + "( a + b )" + behind)), ahead + "( a + b )" + behind)
        self.refused(BadText(0, 3 + 38 + 4), read_question, ahead + "( a + ( a + b ) )" + behind)

    def test_closed_brackets_do_not_count(self):
        text = "( ( x null and x null ) and y null )"
        for _ in range(5):
            text = f"( {text} or {text} )"
        self.assertEqual(str(read_test(text)), text)

    def test_sixty_digits(self):
        most = 10 ** 60 - 1
        for number in (most, -most, 0):
            self.assertEqual(read_test(f"x < {number}"), Below("x", number))
        for number in (most + 1, -most - 1):
            self.refused(BadText(0, 2), read_test, f"x < {number}")
            self.refused(BadText(0, 5), read_question, f"( a where x = {number} )")
            self.same(str(UpTo("x", number)), f"x <= {number}")

    def test_too_many_is_told_when_all_words_can_stand(self):
        full = "( a + b )"
        for _ in range(4):
            full = f"( {full} - {full} )"
        self.same(read_question(full).size, 31)
        text = f"( {full} & ( ( ( a + b ) + ( a + b ) ) + ( ( a + b ) + ( a + b ) ) ) )"
        self.same(read_question(text).size, 39)
        more = f"( ( 2 * {text} ) where has a )"
        self.refused(TooMany("size", 40), read_question, more)
        self.refused(TooMany("size", 40), read_test, f"has {more}")
        self.refused(TooMany("size", 40), read_test, f"not ( x null or has {more} )")
        many = len(more.split(" "))
        self.refused(BadText(0, many), read_question, more + " )")
        self.refused(BadText(0, many - 1), read_question, more[:-2])
        self.refused(BadText(0, many - 2), read_question, more[:-3] + "A )")
        self.same(read_test(f"has {text}").size, 40)
        self.same(read_test(f"( has {text} and has {text} )").size, 80)


if __name__ == "__main__":
    unittest.main()
