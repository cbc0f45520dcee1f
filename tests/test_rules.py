"""Promises [2], [7] and rules.py."""

import random
import unittest

from anything import Case, any_values
from judging import RULES, pairs_told, rule_made
from rowcounts.bags import Bag
from rowcounts.bases import Base
from rowcounts.errors import BadBase, BadRule, BadText, CountError, NoColumn, NoTable, TooMany
from rowcounts.questions import Empty, Question, Table
from rowcounts.rules import Alike, Apart, Inside, Rule, Within
from rowcounts.truths import Below, Has, Missing
from test_words import POOL, first_wrong
from trees import made_of, number_of, some_question, text_of

A, B, C = Table("a"), Table("b"), Table("c")

BASE = Base(("x",), a=Bag(((1,), 2), ((3,), 1)), b=Bag(((1,), 1)))

MOST = 10 ** 30


def big(size):
    """A question with so many operators."""
    question = A
    for _ in range(size):
        question = question + B
    return question


def first_wrong_of_rule(words):
    """The first word of a rule that cannot stand, question by question; None if all can."""
    if words[0] not in RULES:
        return 0
    at = 1
    for closing in (";", None):
        end = next((place for place in range(at, len(words)) if words[place] == ";"), len(words))
        word = first_wrong(words[at:end], "question") if end > at else 0
        if word is not None:
            return at + word
        if closing is None:
            return None if end == len(words) else end
        if end == len(words):
            return end
        at = end + 1


class MakingTest(Case):

    def test_classes_and_attributes(self):
        for word, rule in RULES.items():
            made, named = rule(A - B, C), rule(other=C, one=A - B)
            self.assertTrue(issubclass(rule, Rule))
            self.assertEqual([made.one, made.other, str(made)], [A - B, C, f"{word} ( a - b ) ; c"])
            self.assertEqual([made == named, made.pairs == named.pairs], [True, True])

    def test_pairs(self):
        one, other = A - B, C % Below("x", 5)
        self.assertEqual(Within(one, other).pairs, ((one, other),))
        self.assertEqual(Alike(one, other).pairs, ((one, other), (other, one)))
        self.assertEqual(Apart(one, other).pairs, ((one & other, Empty()),))
        self.assertEqual(Inside(one, other).pairs, ((one // Has(other), Empty()),))

    def test_drawn_pairs(self):
        dice = random.Random(67)
        for _ in range(80):
            told = (dice.choice(list(RULES)), some_question(dice, 2), some_question(dice, 2))
            pairs = rule_made(told).pairs
            self.assertEqual(list(pairs), [(made_of(p), made_of(q)) for p, q in pairs_told(told)])

    def test_any_sides(self):
        for rule in RULES.values():
            for value in any_values():
                if not isinstance(value, Question):
                    self.refused(BadRule("one"), rule, value, A)
                    self.refused(BadRule("one"), rule, value, value)
                    self.refused(BadRule("one"), rule, other=value, one=value)
                    self.refused(BadRule("other"), rule, A, value)
                    self.refused(BadRule("other"), rule, big(40), value)

    def test_too_great_pairs(self):
        self.same([Within(big(40), big(40)).one.size, Alike(big(40), big(40)).other.size], [40, 40])
        self.same(Apart(big(20), big(19)).pairs[0][0].size, 40)
        self.same(Inside(big(19), big(19)).pairs[0][0].size, 40)
        self.refused(TooMany("size", 40), Apart, big(20), big(20))
        self.refused(TooMany("size", 40), Apart, big(40), A)
        self.refused(TooMany("size", 40), Inside, big(20), big(19))
        self.refused(TooMany("size", 40), Inside, A, big(39))

    def test_equality(self):
        def made():
            sides = [(A, B), (B, A), (A, A), (A - B, C), (A, B + C)]
            return [rule(one, other) for rule in RULES.values() for one, other in sides]
        for at, one in enumerate(made()):
            for place, other in enumerate(made()):
                self.same([one == other, one != other], [at == place, at != place])
            for value in any_values():
                if not isinstance(value, Rule):
                    self.same([one == value, one != value], [False, True])

    def test_rules_stay(self):
        rule = Alike(A, B)
        before = [rule.one, rule.other, rule.pairs, str(rule)]
        rule(BASE)
        rule.broken_at(BASE)
        self.assertEqual([rule.one, rule.other, rule.pairs, str(rule)], before)


def own_broken_at(told, base):
    """The first row of a base, ascending, at which a rule of trees does not hold."""
    for row in base.rows():
        values, counts = base.values_of(row), base.numbers(row)
        if any(number_of(p, values, counts) > number_of(q, values, counts) for p, q in pairs_told(told)):
            return row
    return None


class AskingTest(Case):

    def test_told_ones(self):
        self.same([Within(B, A)(BASE), Within(A, B)(BASE), Within(A, B).broken_at(BASE), Within(B, A).broken_at(BASE)],
                  [True, False, (1,), None])
        self.same([Inside(A, B).broken_at(BASE), Inside(B, A).broken_at(BASE)], [(3,), None])
        self.same([Apart(A, B).broken_at(BASE), Apart(A - B, B - A).broken_at(BASE)], [(1,), None])
        self.same([Alike(A, B).broken_at(BASE), Alike(B, A & B).broken_at(BASE)], [(1,), None])
        self.same([Within(A, B).broken_at(base=BASE), Within(A, B)(base=BASE)], [(1,), False])

    def test_the_first_row_of_all_pairs(self):
        """The second pair of Alike is broken at an earlier row than the first one; NULL stands last."""
        base = Base(("x",), a=Bag(((5,), 2), ((7,), 1)), b=Bag(((2,), 1), ((5,), 1)))
        self.same([Alike(A, B).broken_at(base), Alike(B, A).broken_at(base), Within(A, B).broken_at(base)],
                  [(2,), (2,), (5,)])
        base = Base(("x", "y"), a=Bag(((None, 1), 1), ((1, None), 1), ((1, 5), 1)), b=Bag())
        self.same([Within(A, B).broken_at(base), Within(A % Missing("y"), B).broken_at(base)], [(1, 5), (1, None)])
        self.same(Inside(A % Missing("x"), B).broken_at(base), (None, 1))

    def test_against_the_own_reckoning(self):
        dice = random.Random(71)
        broken = 0
        for _ in range(500):
            told = (dice.choice(list(RULES)), some_question(dice, 2), some_question(dice, 2))
            bags = {name: Bag(*[((dice.choice([None, 0, 1, 2]), dice.choice([None, 0, 1])), dice.randint(1, 3))
                                for _ in range(dice.randrange(4))]) for name in "abc"}
            base, rule = Base.of(("x", "y"), bags), rule_made(told)
            expected = own_broken_at(told, base)
            self.same([rule.broken_at(base), rule(base)], [expected, expected is None])
            keeps = [rule(base.only(row)) for row in base.rows()]
            self.same(all(keeps), expected is None)
            broken += expected is not None
        self.assertGreater(min(broken, 500 - broken), 100)

    def test_any_base(self):
        for rule in (Within(A, B), Apart(A, B), Inside(C, C), Alike(A, Empty())):
            for value in any_values():
                if not isinstance(value, Base):
                    self.refused(BadBase("base"), rule, value)
                    self.refused(BadBase("base"), rule.broken_at, value)

    def refused_by_both(self, error, rule, base):
        self.refused(error, rule, base)
        self.refused(error, rule.broken_at, base=base)

    def test_what_the_questions_raise(self):
        self.refused_by_both(NoTable("c"), Within(A, C), BASE)
        self.refused_by_both(NoTable("c"), Apart(Table("d"), C), BASE)
        self.refused_by_both(NoTable("d"), Within(Table("d"), C), BASE)
        self.refused_by_both(NoTable("d"), Alike(Table("d"), C), BASE)
        self.refused_by_both(NoTable("c"), Inside(Table("d"), C), BASE)
        self.refused_by_both(NoColumn("y"), Within(A % Missing("y"), C), BASE)
        self.refused_by_both(NoTable("c"), Within(A, C % Missing("y")), BASE)
        self.refused_by_both(NoColumn("y"), Inside(A, B % Missing("y")), BASE)

    def test_too_many(self):
        base = Base(("x",), a=Bag(((1,), MOST)), b=Bag(((0,), 1), ((1,), 1)))
        self.refused_by_both(TooMany("times", MOST), Within(A * 2, C), base)
        self.refused_by_both(TooMany("times", MOST), Within(B, A + B), base)
        self.refused_by_both(TooMany("times", MOST), Alike(B, A + B), base)
        self.refused_by_both(NoTable("c"), Within(A, C + A), base)
        self.same([Apart(A * 2, B).broken_at(base), Inside(B, A * 2).broken_at(base)], [(1,), (0,)])
        wide = Base(("x",), a=Bag.of([(n,) for n in range(60)]), b=Bag.of([(-1,)]))
        self.refused_by_both(TooMany("rows", 60), Within(A, A + B), wide)
        self.same(Within(A, B).broken_at(wide), (0,))


class TextTest(Case):

    def check_text(self, text):
        word = first_wrong_of_rule(text.split(" "))
        if word is not None:
            self.refused(BadText(0, word), Rule.read, text)
            return
        try:
            found = Rule.read(text)
        except CountError as error:
            self.same(vars(error), {"what": "size", "most": 40})
            return
        self.assertEqual([str(found), type(found)], [text, RULES[text.split(" ")[0]]])

    def test_what_is_written_is_read(self):
        dice = random.Random(73)
        for _ in range(150):
            word = dice.choice(list(RULES))
            one, other = some_question(dice, 3), some_question(dice, 3)
            try:
                rule = rule_made((word, one, other))
            except CountError:
                continue
            self.same(str(rule), f"{word} {text_of(one)} ; {text_of(other)}")
            self.assertEqual([Rule.read(str(rule)), Rule.read(text=str(rule))], [rule, rule])
            self.assertEqual([Rule.read(str(rule)).one, Rule.read(str(rule)).other], [rule.one, rule.other])

    def test_any_value_that_is_no_text(self):
        for value in any_values():
            if not isinstance(value, str):
                self.refused(BadText(0, 0), Rule.read, value)
            else:
                self.check_text(value)

    def test_told_words(self):
        wrong = {
            "": 0, " ": 0, "a ; b": 0, "Within a ; b": 0, " within a ; b": 0, "rule within a ; b": 0, "within": 1,
            "within ": 1, "within ;": 1, "within a": 2, "within a ": 2, "within a b": 2, "within a ;": 3,
            "within a ; ": 3, "within a ; b ": 4, "within a ; b c": 4, "within a ; b ; c": 4, "within  a ; b": 1,
            "within a; b": 1, "within a ;b": 2, "inside ( a + ; b": 4, "apart ( a + b ; c": 5, "alike a ; ( b": 5,
            "alike ( 10 * a ) ; b": 2, "alike a ; ( a where not not x null )": 7, "within a -> b": 2,
            "within a ; b\n": 3, "within\na ; b": 0, "within a ; null": 3, "alike within a ; b": 2, "within a / b": 2,
        }
        for text, word in wrong.items():
            self.refused(BadText(0, word), Rule.read, text)
            self.assertEqual(first_wrong_of_rule(text.split(" ")), word, text)

    def test_changed_words(self):
        pool = [*POOL, ";", "/", "->", "within", "alike", "apart", "inside"]
        for text in ["within a ; b", "alike ( 2 * a ) ; ( b unless not x < 5 )", "inside ( a - b ) ; ( a where has c )"]:
            words = text.split(" ")
            for at in range(len(words) + 1):
                for word in pool:
                    self.check_text(" ".join([*words[:at], word, *words[at:]]))
                    self.check_text(" ".join([*words[:at], word, *words[at + 1:]]))
                self.check_text(" ".join([*words[:at], *words[at + 1:]]))
                self.check_text(" ".join(words[:at]))

    def test_great_questions(self):
        text = str(big(40))
        self.same(str(Rule.read(f"within {text} ; a")), f"within {text} ; a")
        self.refused(TooMany("size", 40), Rule.read, f"inside {text} ; a")
        self.refused(TooMany("size", 40), Rule.read, f"apart a ; {text}")
        broad = "a"
        for _ in range(6):
            broad = f"( {broad} + {broad} )"
        self.refused(TooMany("size", 40), Rule.read, f"alike a ; {broad}")
        self.refused(BadText(0, 3 + len(broad.split(" "))), Rule.read, f"alike a ; {broad} )")
        self.refused(BadText(0, 1 + (4 * 40 + 1) + 2), Rule.read, f"inside {text} ; a a")
        deep = "( 1 * " * 41 + "a" + " )" * 41
        self.refused(BadText(0, 1 + 3 * 40), Rule.read, f"within {deep} ; a")
        self.refused(BadText(0, 3 + 3 * 40), Rule.read, f"within a ; {deep}")


if __name__ == "__main__":
    unittest.main()
