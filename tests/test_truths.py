"""Promises [2], [4] and truths.py."""

import itertools
import unittest

from anything import Case, any_values, is_integer
from rowcounts.bags import Bag
from rowcounts.bases import Base
from rowcounts.errors import BadCounts, BadName, BadNumber, BadQuestion, BadRow, BadTest, NoColumn, NoTable
from rowcounts.questions import Empty, Question, Table
from rowcounts.truths import And, Below, Condition, Equals, Has, Missing, Not, Or, Test, UpTo

COMPARISONS = (Below, UpTo, Equals)

RESERVED = ("and", "or", "not", "has", "null", "where", "unless", "empty", "of", "none", "self", "columns")


def is_name(value):
    letters = "abcdefghijklmnopqrstuvwxyz"
    return (type(value) is str and 1 <= len(value) <= 8 and all(letter in letters for letter in value)
            and value not in RESERVED)


def are_values(value):
    return type(value) is dict and all(
        is_name(column) and (item is None or is_integer(item)) for column, item in value.items())


def are_counts(value):
    return type(value) is dict and all(
        is_name(name) and is_integer(item) and item >= 0 for name, item in value.items())


def tests_of_truths():
    """For each of the three values a test of it at x 1, y NULL."""
    return {True: Below("x", 5), False: Equals("x", 5), None: UpTo("y", 5)}


ROW = {"x": 1, "y": None}


class MakingTest(Case):

    def test_classes(self):
        for test in (Below, UpTo, Equals, Missing):
            self.assertTrue(issubclass(test, Condition))
        for test in (Condition, Has, And, Or, Not):
            self.assertTrue(issubclass(test, Test))
        for test in (Has, And, Or, Not):
            self.assertFalse(issubclass(test, Condition))

    def test_any_column(self):
        for value in [*any_values(), *RESERVED, "abcdefgh", "abcdefghi", "aB", "a1", "a_", "\u00e4", "\u0430"]:
            for test in COMPARISONS:
                if is_name(value):
                    self.assertEqual(test(value, 5).columns, (value,))
                else:
                    self.refused(BadName(value), test, value, 5)
                    self.refused(BadName(value), test, column=value, number="x")
            if not is_name(value):
                self.refused(BadName(value), Missing, value)
                self.refused(BadName(value), Missing, column=value)

    def test_any_number(self):
        for value in any_values():
            for test in COMPARISONS:
                if is_integer(value):
                    self.assertTrue(str(test("x", value)).endswith(f" {value}"))
                else:
                    self.refused(BadNumber(value), test, "x", value)

    def test_any_question(self):
        for value in any_values():
            if isinstance(value, Question):
                self.assertEqual(str(Has(value)), f"has {value}")
            else:
                self.refused(BadQuestion("question"), Has, value)
        self.assertEqual(Has(question=Table("a")), Has(Table("a")))

    def test_any_part(self):
        test = Missing("x")
        for value in any_values():
            if isinstance(value, Test):
                continue
            for made in (And, Or):
                self.refused(BadTest("one"), made, value, value)
                self.refused(BadTest("one"), made, value, test)
                self.refused(BadTest("other"), made, test, value)
                self.refused(BadTest("other"), made, other=value, one=test)
            self.refused(BadTest("other"), lambda: test & value)
            self.refused(BadTest("other"), lambda: test | value)
            self.refused(BadTest("test"), Not, value)
        self.refused(BadTest("test"), Not, ~test)
        self.refused(BadTest("test"), Not, test=Not(Has(Table("a"))))

    def test_signs(self):
        one, other = Below("x", 5), Has(Table("a"))
        self.assertEqual([one & other, one | other, ~one], [And(one, other), Or(one, other), Not(one)])
        self.assertEqual([type(one & other), type(one | other), type(~one)], [And, Or, Not])
        self.assertEqual([~~one, ~~~one, ~Not(other)], [one, ~one, other])
        self.assertEqual(And(other=other, one=one), one & other)
        self.assertEqual(Not(test=one), ~one)

    def test_in_place_binds_the_name(self):
        elder = Below("x", 5)
        test = elder
        test &= Missing("y")
        self.assertEqual(str(test), "( x < 5 and y null )")
        test |= Missing("z")
        self.assertEqual(str(test), "( ( x < 5 and y null ) or z null )")
        self.assertEqual(str(elder), "x < 5")


class TruthTest(Case):

    def test_comparisons(self):
        for value in (-10 ** 60, -1, 0, 4, 5, 6, 10 ** 60):
            for number in (-10 ** 60, -1, 0, 5, 10 ** 60):
                row = {"x": value}
                self.same(Below("x", number).truth(row), value < number)
                self.same(UpTo("x", number).truth(row), value <= number)
                self.same(Equals("x", number).truth(row), value == number)
            self.same(Missing("x").truth({"x": value}), False)

    def test_comparisons_with_null_are_unknown(self):
        for test in COMPARISONS:
            self.same(test("x", 0).truth({"x": None}), None)
        self.same(Missing("x").truth({"x": None}), True)

    def test_has(self):
        test = Has(Table("a") - Table("b"))
        for one, other in itertools.product(range(4), range(4)):
            self.same(test.truth({}, {"a": one, "b": other}), one > other)
        self.same(Has(Empty()).truth({}), False)
        self.same(Has(Table("a") % Below("x", 5)).truth({"x": None}, {"a": 3}), False)
        self.same(Has(Table("a") // Below("x", 5)).truth({"x": None}, {"a": 3}), True)

    def test_and(self):
        tests = tests_of_truths()
        expected = {(True, True): True, (True, None): None, (None, None): None}
        for one, other in itertools.product(tests, tests):
            truth = expected.get((one, other), expected.get((other, one), False))
            self.same((tests[one] & tests[other]).truth(ROW), truth)

    def test_or(self):
        tests = tests_of_truths()
        expected = {(False, False): False, (False, None): None, (None, None): None}
        for one, other in itertools.product(tests, tests):
            truth = expected.get((one, other), expected.get((other, one), True))
            self.same((tests[one] | tests[other]).truth(ROW), truth)

    def test_not(self):
        tests = tests_of_truths()
        self.same([(~tests[truth]).truth(ROW) for truth in (True, False, None)], [False, True, None])
        self.same((~(tests[None] & tests[True])).truth(ROW), None)
        self.same((~(tests[None] & tests[False])).truth(ROW), True)

    def test_call_tells_whether_it_is_true(self):
        tests = tests_of_truths()
        self.same([tests[truth](ROW) for truth in (True, False, None)], [True, False, False])
        self.same([Has(Table("a"))({}, {"a": 2}), Has(Table("a"))({}, {"a": 0})], [True, False])

    def test_by_place_and_by_name(self):
        test = Has(Table("a")) & Below("x", 5)
        self.same(test.truth(counts={"a": 1}, values={"x": 4}), True)
        self.same(test(counts={"a": 1}, values={"x": 5}), False)
        self.same(Below("x", 5).truth({"x": 4}, None), True)
        self.same(Below("x", 5)(values={"x": 4}), True)

    def test_further_keys_play_no_part(self):
        self.same(Below("x", 5).truth({"x": 4, "y": None, "z": 9, "u": 1, "v": 2}, {"a": 3}), True)
        self.same(Has(Table("a")).truth({"z": 7}, {"a": 3, "b": 0}), True)


class RefusingTest(Case):

    def test_any_values(self):
        test = Below("x", 5) | ~Has(Table("a"))
        for call in (test.truth, test):
            for value in any_values():
                if not are_values(value):
                    self.refused(BadRow("values"), call, value, {"a": 1})
                    self.refused(BadRow("values"), call, value, value)
                if not are_counts(value) and value is not None:
                    self.refused(BadCounts("counts"), call, {"x": 1}, value)
                    self.refused(BadCounts("counts"), call, {}, value)

    def test_any_value_within_the_dicts(self):
        test = Below("x", 5)
        for value in any_values():
            if value is not None and not is_integer(value):
                self.refused(BadRow("values"), test.truth, {"x": value})
                self.refused(BadRow("values"), test.truth, {"x": 1, "y": value})
            if not (is_integer(value) and value >= 0):
                self.refused(BadCounts("counts"), test.truth, {"x": 1}, {"a": value})

    def test_keys_that_are_no_names(self):
        test = Below("x", 5)
        for key in ["", "X", "x y", "null", "abcdefghi", 1, None, True, (), ("x",), *RESERVED]:
            self.refused(BadRow("values"), test.truth, {"x": 1, key: 1})
            self.refused(BadCounts("counts"), test.truth, {"x": 1}, {"a": 1, key: 1})

    def test_the_least_one_that_is_lacking(self):
        test = Has(Table("c")) & Below("z", 5) & Missing("y") & Has(Table("b") % Equals("x", 1)) & Has(Table("a"))
        counts, values = {"a": 1, "b": 1, "c": 1}, {"x": 1, "y": 1, "z": 1}
        self.refused(NoColumn("x"), test.truth, {}, {})
        self.refused(NoColumn("y"), test.truth, {"x": 1}, None)
        self.refused(NoColumn("z"), test.truth, {"x": 1, "y": None})
        self.refused(NoTable("a"), test.truth, values)
        self.refused(NoTable("a"), test, values, None)
        self.refused(NoTable("b"), test.truth, values, {"a": 1})
        self.refused(NoTable("c"), test.truth, values, {"a": 1, "b": 0, "d": 4})
        self.same(test.truth(values, counts), False)

    def test_order_of_errors(self):
        test = Below("x", 5) & Has(Table("a"))
        self.refused(BadRow("values"), test.truth, {"x": True}, {"a": -1})
        self.refused(BadCounts("counts"), test.truth, {}, {"a": -1})
        self.refused(NoColumn("x"), test.truth, {}, {})

    def test_lacking_ones_are_told_also_where_nothing_hangs_on_them(self):
        self.refused(NoColumn("y"), (Below("x", 5) & Missing("y")).truth, {"x": 9})
        self.refused(NoTable("a"), (Below("x", 5) | Has(Table("a"))).truth, {"x": 1})


class PartsTest(Case):

    def test_columns_names_conditions_sizes(self):
        inner = (Table("d") - Table("a")) % (Equals("z", 1) & Below("x", 5))
        test = (Below("y", 2) | ~Has(inner)) & (Below("x", 5) | Has(Table("b") + Table("a")))
        self.same(test.columns, ("x", "y", "z"))
        self.same(test.names, ("a", "b", "d"))
        self.same([str(one) for one in test.conditions], ["x < 5", "y < 2", "z = 1"])
        self.same(type(test.conditions), tuple)
        self.same(test.size, 1 + 2 + 1 + 1)

    def test_bare_ones(self):
        for test in (Below("x", 5), UpTo("x", 5), Equals("x", 5), Missing("x")):
            self.same([test.columns, test.names, test.size], [("x",), (), 0])
            self.same((~test | test).size, 0)
            self.assertEqual((test & ~test).conditions, (test,))
        self.same([Has(Empty()).columns, Has(Empty()).names, Has(Empty()).conditions], [(), (), ()])
        self.same([Has(Empty()).size, Has(Table("a") - three_operators()).size], [1, 5])

    def test_conditions_ascend_by_their_texts(self):
        made = [Missing("x"), Equals("x", 5), UpTo("x", 5), Below("x", 5), Below("x", 10), Below("x", -1), Missing("a")]
        test = made[0]
        for one in made[1:] + made:
            test = test | one
        texts = ["a null", "x < -1", "x < 10", "x < 5", "x <= 5", "x = 5", "x null"]
        self.same([str(one) for one in test.conditions], texts)
        self.same([type(one) for one in test.conditions], [Missing, Below, Below, Below, UpTo, Equals, Missing])

    def test_a_size_has_no_bound(self):
        test = Has(Table("a"))
        for _ in range(60):
            test = test & Has(Table("a"))
        self.same(test.size, 61)

    def test_texts(self):
        a = Table("a")
        texts = {
            "x < 5": Below("x", 5), "x <= -5": UpTo("x", -5), "x = 0": Equals("x", 0), "x null": Missing("x"),
            "has a": Has(a), "has ( a - empty )": Has(a - Empty()), "not has a": ~Has(a), "not x null": ~Missing("x"),
            "( x < 5 and not has a )": Below("x", 5) & ~Has(a), "not ( x null or has a )": ~(Missing("x") | Has(a)),
            "( ( x null and x null ) or has ( a where x null ) )":
                Missing("x") & Missing("x") | Has(a % Missing("x")),
        }
        for text, test in texts.items():
            self.same(str(test), text)
        self.same(str(Below("x", 10 ** 60)), f"x < {10 ** 60}")

    def test_deep_ones_are_written(self):
        test = Missing("x")
        for _ in range(100):
            test = test & Missing("y")
        self.same(str(test), "( " * 100 + "x null" + " and y null )" * 100)
        self.same(test.truth({"x": None, "y": None}), True)

    def test_equality(self):
        def made():
            return [Below("x", 5), Below("y", 5), Below("x", 6), UpTo("x", 5), Equals("x", 5), Missing("x"),
                    Missing("y"), Has(Table("a")), Has(Table("b")), Has(Empty()), ~Missing("x"),
                    Missing("x") & Missing("y"), Missing("y") & Missing("x"), Missing("x") | Missing("y"),
                    ~(Missing("x") | Missing("y")), (Missing("x") | Missing("y")) | Missing("x"),
                    Missing("x") | (Missing("y") | Missing("x"))]
        for at, one in enumerate(made()):
            for place, other in enumerate(made()):
                self.same([one == other, one != other], [at == place, at != place])
            for value in any_values():
                if not isinstance(value, Test):
                    self.same([one == value, one != value], [False, True])
            self.assertFalse(one == str(one))

    def test_arguments_stay(self):
        values, counts = {"x": 4, "y": 1}, {"a": 1, "b": 2}
        Has(Table("a") % Below("x", 5)).truth(values, counts)
        self.same([values, counts], [{"x": 4, "y": 1}, {"a": 1, "b": 2}])

    def test_the_truths_of_a_base(self):
        base = Base(("x",), a=Bag.of([(1,), (7,), (None,)]))
        test = Below("x", 5) | Has(Table("a") - Table("a"))
        truths = [test.truth(base.values_of(row), base.numbers(row)) for row in base.rows()]
        self.same(truths, [True, False, None])


def three_operators():
    return Table("b") * 2 + Table("c") * 3


if __name__ == "__main__":
    unittest.main()
