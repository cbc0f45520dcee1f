"""Promises [2], [4], [5], [6], [13] and questions.py."""

import inspect
import itertools
import random
import unittest

from anything import Case, any_values, is_integer
from rowcounts import questions
from rowcounts.bags import Bag
from rowcounts.bases import Base
from rowcounts.errors import (
    BadBase, BadCounts, BadName, BadNumber, BadQuestion, BadRow, BadTest, NoColumn, NoPlace, NoTable, TooMany,
)
from rowcounts.questions import (
    Bare, Bent, Both, Chosen, Empty, Greater, Lesser, Pair, Question, Rest, Single, Straight, Table, Times, Unless,
    Where,
)
from rowcounts.truths import Below, Has, Missing, Test
from test_truths import RESERVED, are_counts, are_values, is_name
from trees import leaves_of, made_of, number_of, size_of, some_question, text_of

A, B, C = Table("a"), Table("b"), Table("c")

LOW = Below("x", 5)

PAIRS = ((Both, "+"), (Lesser, "&"), (Greater, "|"), (Rest, "-"))


def of_size(size):
    """A question of this size, not deep."""
    parts = [A] * (size + 1)
    while len(parts) > 1:
        parts = [one + other for one, other in zip(parts[::2], parts[1::2])] + parts[len(parts) // 2 * 2:]
    return parts[0]


def grown(question, part, sign):
    """A question with one operator more."""
    if sign == "*":
        return question * 2
    if sign == "%":
        return question % LOW
    return question // LOW if sign == "//" else eval(f"question {sign} part")


class ClassesTest(Case):

    def test_which_stands_below_which(self):
        below = {
            Bare: (Table, Empty), Pair: (Both, Lesser, Greater, Rest), Single: (Times, Where, Unless),
            Straight: (Table, Empty, Both, Times), Bent: (Lesser, Greater, Rest), Chosen: (Where, Unless),
        }
        made = (Table, Empty, Both, Times, Lesser, Greater, Rest, Where, Unless)
        for group, told in below.items():
            self.assertTrue(issubclass(group, Question))
            for one in made:
                self.assertEqual(issubclass(one, group), one in told, (one, group))
        for one, other in itertools.permutations([*made], 2):
            self.assertFalse(issubclass(one, other))
        self.assertFalse(issubclass(Question, Test))

    def test_what_the_signs_make(self):
        for kind, sign in PAIRS:
            question = grown(A, B, sign)
            self.same([type(question), str(question)], [kind, f"( a {sign} b )"])
            self.assertEqual(question, kind(A, B))
            self.assertEqual(question, kind(other=B, one=A))
        self.same([type(A * 3), str(A * 3), str(Times(0, A))], [Times, "( 3 * a )", "( 0 * a )"])
        self.assertEqual(Times(part=A, number=3), A * 3)
        self.same([type(A % LOW), str(A % LOW)], [Where, "( a where x < 5 )"])
        self.same([type(A // LOW), str(A // LOW)], [Unless, "( a unless x < 5 )"])
        self.assertEqual([Where(test=LOW, part=A), Unless(test=LOW, part=A)], [A % LOW, A // LOW])
        self.same([str(Table(name="abcdefgh")), str(Empty())], ["abcdefgh", "empty"])

    def test_most(self):
        self.same([Question.MOST, A.MOST], [40, 40])

    def test_any_name(self):
        for value in [*any_values(), *RESERVED, "abcdefgh", "abcdefghi", "aB", "\u00e4"]:
            if is_name(value):
                self.same(Table(value).names, (value,))
            else:
                self.refused(BadName(value), Table, value)
                self.refused(BadName(value), Table, name=value)

    def test_any_part_of_a_pair(self):
        for value in any_values():
            if isinstance(value, Question):
                continue
            for kind, sign in PAIRS:
                self.refused(BadQuestion("one"), kind, value, value)
                self.refused(BadQuestion("one"), kind, value, A)
                self.refused(BadQuestion("other"), kind, A, value)
                self.refused(BadQuestion("other"), lambda: grown(A, value, sign))

    def test_any_number(self):
        for value in any_values():
            if is_integer(value) and 0 <= value <= 9:
                self.same(str(A * value), f"( {value} * a )")
            else:
                self.refused(BadNumber(value), Times, value, "x")
                self.refused(BadNumber(value), Times, value, A)
                self.refused(BadNumber(value), lambda: A * value)
            if not isinstance(value, Question):
                self.refused(BadQuestion("part"), Times, 9, value)

    def test_any_part_and_test(self):
        for value in any_values():
            for kind in (Where, Unless):
                if not isinstance(value, Question):
                    self.refused(BadQuestion("part"), kind, value, value)
                    self.refused(BadQuestion("part"), kind, value, LOW)
                if not isinstance(value, Test):
                    self.refused(BadTest("test"), kind, A, value)
            if not isinstance(value, Test):
                self.refused(BadTest("test"), lambda: A % value)
                self.refused(BadTest("test"), lambda: A // value)

    def test_size_of_forty(self):
        full = of_size(40)
        self.same(full.size, 40)
        for sign in ("+", "&", "|", "-", "*", "%", "//"):
            self.same(grown(of_size(39), A, sign).size, 40)
            self.refused(TooMany("size", 40), lambda: grown(full, A, sign))
        self.refused(TooMany("size", 40), lambda: A + full)
        self.same((of_size(20) + of_size(19)).size, 40)
        self.refused(TooMany("size", 40), lambda: of_size(20) + of_size(20))
        self.same((A % Has(of_size(38))).size, 40)
        self.refused(TooMany("size", 40), lambda: A % Has(of_size(39)))
        self.refused(TooMany("size", 40), Where, A, Has(full) | LOW)
        self.refused(BadTest("test"), lambda: full % 5)

    def test_tests_put_together_do_not_count(self):
        test = LOW
        for _ in range(60):
            test = ~(test & Missing("y"))
        self.same((A % test).size, 1)

    def test_in_place_binds_the_name(self):
        elder = A
        question = elder
        question += B
        question -= C
        question &= A
        question |= B
        question *= 3
        question %= LOW
        question //= Missing("y")
        text = "( ( ( 3 * ( ( ( ( a + b ) - c ) & a ) | b ) ) where x < 5 ) unless y null )"
        self.same([str(question), str(elder)], [text, "a"])


class PropertiesTest(Case):

    def test_random_questions(self):
        dice = random.Random(5)
        for _ in range(300):
            tree = some_question(dice, 4)
            if size_of(tree) > 40:
                continue
            question = made_of(tree)
            names, columns, texts = leaves_of(tree)
            self.same(str(question), text_of(tree))
            self.same(question.size, size_of(tree))
            self.same(question.names, tuple(sorted(names)))
            self.same(question.columns, tuple(sorted(columns)))
            self.same(tuple(str(one) for one in question.conditions), tuple(sorted(texts)))
            self.same(question.is_plain, not any(word in str(question).split(" ") for word in ("where", "unless")))

    def test_parts(self):
        self.same([A.parts, Empty().parts], [(), ()])
        for kind, _ in PAIRS:
            self.assertEqual(kind(A, B).parts, (A, B))
        self.assertEqual([(A * 2).parts, (B % LOW).parts, (C // Has(A)).parts], [(A,), (B,), (C,)])

    def test_is_plain(self):
        plain = [A, Empty(), A + B, A * 0, (A & B) - (A | C)]
        self.same([one.is_plain for one in plain], [True] * 5)
        self.same([one.is_plain for one in (A % LOW, A // Has(B), A + B % LOW, (B // LOW) * 2)], [False] * 4)

    def test_in(self):
        question = (A - B) % Has(Table("x") // Below("y", 2))
        for value in any_values():
            self.same(value in question, type(value) is str and value in ("a", "b", "x"))
        self.same(["y" in question, "empty" in Empty(), "b" in question], [False, False, True])

    def test_equality(self):
        def made():
            return [A, B, Empty(), A + B, B + A, A & B, A | B, A - B, A * 2, A * 3, B * 2, A % LOW, A // LOW,
                    A % Has(A), A % ~LOW, B % LOW, (A + B) + C, A + (B + C)]
        for at, one in enumerate(made()):
            for place, other in enumerate(made()):
                self.same([one == other, one != other], [at == place, at != place])
            for value in [*any_values(), str(one)]:
                if not isinstance(value, Question):
                    self.same([one == value, one != value], [False, True])

    def test_no_iteration(self):
        for question in (A, A + B, Empty(), A % LOW):
            for call in (iter, list, tuple, lambda one: [*one]):
                with self.assertRaises(TypeError):
                    call(question)


class NumbersTest(Case):

    def test_random_questions(self):
        dice = random.Random(7)
        values = [{"x": x, "y": y} for x in (None, -3, 0, 1) for y in (None, -2, 2)]
        numbers = [0, 0, 1, 2, 3, 7, 10 ** 30]
        for _ in range(400):
            tree = some_question(dice, 4)
            if size_of(tree) > 40:
                continue
            question = made_of(tree)
            for _ in range(6):
                row, counts = dice.choice(values), {name: dice.choice(numbers) for name in "abcd"}
                self.same(question.often(row, counts), number_of(tree, row, counts))

    def test_each_kind(self):
        counts = {"a": 5, "b": 3}
        told = [A, Empty(), A + B, A & B, B & A, A | B, B | A, A - B, B - A, A * 0, A * 9]
        self.same([one.often({}, counts) for one in told], [5, 0, 8, 3, 3, 5, 5, 2, 0, 0, 45])
        for value, truth in ((4, True), (5, False), (None, None)):
            row = {"x": value}
            self.same((A % LOW).often(row, counts), 5 if truth is True else 0)
            self.same((A // LOW).often(row, counts), 0 if truth is True else 5)
        self.same((A * 9 * 9).often(counts={"a": 10 ** 60}, values={}), 81 * 10 ** 60)

    def test_tests_within_has_within_tests(self):
        inner = Has(B % ~Missing("x"))
        question = A % (Has(C // (inner | LOW)) & ~inner)
        self.same(question.often({"x": 7}, {"a": 2, "b": 0, "c": 1}), 2)
        self.same(question.often({"x": 7}, {"a": 2, "b": 1, "c": 1}), 0)
        self.same(question.often({"x": None}, {"a": 2, "b": 1, "c": 1}), 2)
        self.same(question.often({"x": 4}, {"a": 2, "b": 0, "c": 1}), 0)
        self.same([question.size, question.names, question.columns], [1 + 1 + 1 + 2 + 2, ("a", "b", "c"), ("x",)])

    def test_wrong_values_and_counts(self):
        question = A % LOW + B
        for value in any_values():
            if not are_values(value):
                self.refused(BadRow("values"), question.often, value, value)
            if not are_counts(value):
                self.refused(BadCounts("counts"), question.often, {}, value)
                self.refused(BadCounts("counts"), A.often, {}, value)
        self.refused(BadCounts("counts"), question.often, {"x": 1}, {"a": 1, "b": True})
        self.refused(NoColumn("x"), question.often, {}, {})
        self.refused(NoTable("a"), question.often, {"x": 1}, {"b": 1})
        self.refused(NoTable("b"), question.often, {"x": 1, "y": None}, {"a": 1, "c": 1})


class AnswersTest(Case):

    def test_answers(self):
        dice = random.Random(11)
        values = [None, -3, 0, 1]
        for _ in range(150):
            tree = some_question(dice, 3)
            bags = {name: Bag.of([(dice.choice(values), dice.choice(values)) for _ in range(dice.randrange(6))])
                    for name in "abcd"}
            base = Base(("x", "y"), **bags)
            rows = {row for bag in bags.values() for row, _ in bag}
            expected = [(row, number_of(tree, dict(zip("xy", row)), {name: bags[name].often(row) for name in bags}))
                        for row in rows]
            answer = made_of(tree)(base)
            self.assertEqual(answer, Bag(*[pair for pair in expected if pair[1]]))

    def test_any_base(self):
        for value in any_values():
            if not isinstance(value, Base):
                self.refused(BadBase("base"), A, value)
        self.same(str(A(base=Base(("x",), a=Bag(((1,), 2))))), "2 of 1")

    def test_what_the_base_lacks(self):
        question = C % Missing("z") + B % Has(A // Missing("y"))
        base = Base(("x",), b=Bag())
        self.refused(NoTable("a"), question, base)
        self.refused(NoTable("c"), question, base.with_bag("a", Bag()))
        self.refused(NoColumn("y"), question, base.with_bag("a", Bag()).with_bag("c", Bag()))
        self.refused(NoColumn("z"), question, Base(("x", "y"), a=Bag(), b=Bag(), c=Bag()))
        self.same(str(question(Base(("x", "y", "z"), a=Bag(), b=Bag(), c=Bag()))), "none")

    def test_too_great_answers(self):
        most = 10 ** 30
        one = Bag(*[((at,), most) for at in range(40)])
        other = Bag(*[((at,), 1) for at in range(20, 61)])
        base = Base(("x",), a=one, b=other)
        self.refused(TooMany("times", most), A + B, base)
        self.refused(TooMany("times", most), A * 2, base)
        self.refused(TooMany("rows", 60), A | B, base)
        self.refused(TooMany("rows", 60), A & A | B, base)
        self.assertEqual((A * 9 - A * 8)(base), one)
        self.same(len(((A | B) // Below("x", 1))(base)), 60)


class PlacesTest(Case):

    def test_places(self):
        question = (A - B) * 2 % Has(C + C) & Empty()
        places = [(), (0,), (0, 0), (0, 0, 0), (0, 0, 0, 0), (0, 0, 0, 1), (1,)]
        self.same(list(question.places()), places)
        self.assertTrue(inspect.isgenerator(question.places()))
        self.same(list(A.places()), [()])
        parts = ["( ( ( 2 * ( a - b ) ) where has ( c + c ) ) & empty )", "( ( 2 * ( a - b ) ) where has ( c + c ) )",
                 "( 2 * ( a - b ) )", "( a - b )", "a", "b", "empty"]
        self.same([str(question[place]) for place in places], parts)
        for place in places:
            self.assertEqual(question.put(place, question[place]), question)

    def test_put(self):
        question = (A - B) * 2 % Has(C + C)
        self.same(str(question.put((), B)), "b")
        self.same(str(question.put((0,), B)), "( b where has ( c + c ) )")
        self.same(str(question.put((0, 0), B)), "( ( 2 * b ) where has ( c + c ) )")
        self.same(str(question.put(part=C, place=(0, 0, 1))), "( ( 2 * ( a - c ) ) where has ( c + c ) )")
        self.same(str((A // LOW).put((0,), B)), "( b unless x < 5 )")
        for kind, sign in PAIRS:
            self.same([str(kind(A, B).put((0,), C)), str(kind(A, B).put((1,), C))],
                      [f"( c {sign} b )", f"( a {sign} c )"])
            self.same(type(kind(A, B).put((1,), C)), kind)
        self.same(str(question), "( ( 2 * ( a - b ) ) where has ( c + c ) )")

    def test_any_place(self):
        question = A + B * 2
        places = [(), (0,), (1,), (1, 0)]
        for value in [*any_values(), (0, 0), (1, 1), (1, 0, 0), (2,), (-1,), (True,), (False,), [0], [], "", 0]:
            if type(value) is tuple and value in places and not any(step is True or step is False for step in value):
                self.assertIsInstance(question[value], Question)
                continue
            self.refused(NoPlace(value), lambda: question[value])
            self.refused(NoPlace(value), question.put, value, A)
            self.refused(NoPlace(value), question.put, value, value)

    def test_put_any_part(self):
        for value in any_values():
            if not isinstance(value, Question):
                self.refused(BadQuestion("part"), (A + B).put, (0,), value)
                self.refused(BadQuestion("part"), A.put, (), value)

    def test_put_too_many(self):
        self.refused(TooMany("size", 40), (of_size(20) + A).put, (1,), of_size(20))
        self.same((of_size(20) + A).put((1,), of_size(19)).size, 40)
        self.refused(TooMany("size", 40), (A % Has(of_size(38))).put, (0,), A + A)


class FilledTest(Case):

    def test_filled(self):
        question = (A - B) % (Has(A + C) | ~LOW) + (B // Has(A)) * 2
        parts = {"a": B & C, "b": Empty(), "d": A, 5: "x", None: None}
        self.same(str(question.filled(parts)), "( ( ( ( b & c ) - empty ) where ( has ( ( b & c ) + c ) or not x < 5 ) )"
                                               " + ( 2 * ( empty unless has ( b & c ) ) ) )")
        self.assertEqual([question.filled({}), question.filled({"z": A})], [question, question])
        self.assertEqual(question.filled(parts={"a": A, "b": B}), question)
        self.same(str((A - B).filled({"a": B, "b": A})), "( b - a )")
        self.same(str((A & B | A).filled({"a": C})), "( ( c & b ) | c )")
        self.same(str(A.filled({"a": A + A})), "( a + a )")

    def test_filled_questions_tell_the_numbers_of_the_parts(self):
        dice = random.Random(13)
        for _ in range(120):
            tree, first, second = some_question(dice, 3), some_question(dice, 1), some_question(dice, 1)
            try:
                filled = made_of(tree).filled({"a": made_of(first), "b": made_of(second)})
            except TooMany:
                continue
            row = {"x": dice.choice([None, 0, 3]), "y": dice.choice([None, -2])}
            counts = {name: dice.randrange(4) for name in "abc"}
            inner = {"a": number_of(first, row, counts), "b": number_of(second, row, counts), "c": counts["c"]}
            self.same(filled.often(row, counts), number_of(tree, row, inner))

    def test_any_parts(self):
        question = A - B
        for value in any_values():
            if type(value) is not dict:
                self.refused(BadQuestion("parts"), question.filled, value)
            if not isinstance(value, Question):
                self.refused(BadQuestion("b"), question.filled, {"c": value, "b": value, "a": A})
                self.refused(BadQuestion("Zz"), question.filled, {"b": value, "Zz": value, 5: value})
        self.refused(BadQuestion("b"), A.filled, {"b": 5})

    def test_filled_too_many(self):
        self.same((A + B).filled({"a": of_size(39)}).size, 40)
        self.refused(TooMany("size", 40), (A + B).filled, {"a": of_size(40)})
        self.refused(TooMany("size", 40), (A % Has(B)).filled, {"b": of_size(39)})
        self.refused(BadQuestion("b"), (A + B).filled, {"a": of_size(40), "b": None})

    def test_what_is_done_to_an_argument_later(self):
        parts = {"a": B}
        filled = (A + A).filled(parts)
        parts["a"] = C
        self.same([str(filled), list(parts)], ["( b + b )", ["a"]])


class NothingChangesTest(Case):

    def test_objects_stay_as_they_are(self):
        question = (A - B) % (LOW | Has(C))
        text, other = str(question), Base(("x",), a=Bag(((1,), 2)), b=Bag(), c=Bag())
        for call in (lambda: question(other), lambda: question.put((0, 0), C), lambda: question.filled({"a": C}),
                     lambda: question.often({"x": 1}, {"a": 1, "b": 2, "c": 3}), lambda: list(question.places()),
                     lambda: (question + A, question * 2, question // LOW, ~LOW, question.parts, question.names)):
            call()
            self.same([str(question), question.size, question.names], [text, 3, ("a", "b", "c")])

    def test_questions_are_all_listed(self):
        made = {name for name, value in vars(questions).items()
                if inspect.isclass(value) and issubclass(value, Question)}
        self.assertEqual(made, {"Question", "Bare", "Pair", "Single", "Straight", "Bent", "Chosen", "Table", "Empty",
                                "Both", "Times", "Lesser", "Greater", "Rest", "Where", "Unless"})


if __name__ == "__main__":
    unittest.main()
