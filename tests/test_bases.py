"""Promises [2], [6] and bases.py."""

import inspect
import unittest

from anything import Case, any_values, is_integer
from rowcounts.bags import Bag
from rowcounts.bases import Base
from rowcounts.errors import BadBase, BadName, BadQuestion, BadRow, NoColumn, NoTable, TooMany
from rowcounts.questions import Empty, Question, Table
from rowcounts.truths import Below, Has, Missing

WRONG_NAMES = ("", "A", "a b", "a1", "abcdefghi", "null", "empty", "where", "of", "none", "columns")


def base_of_three():
    return Base(("x", "y"), b=Bag(((1, None), 3), ((0, 2), 1)), a=Bag(((None, 5), 2)), empties=Bag())


def is_columns(value):
    return type(value) is tuple and value in [("x",), ("y",), ("a",), ("x", "y"), ("x", "y", "z")]


class MakingTest(Case):

    def test_any_columns(self):
        for value in any_values():
            if is_columns(value):
                self.same(Base(value).columns, value)
                self.same(Base.of(value, {}).columns, value)
            else:
                self.refused(BadBase("columns"), Base, value)
                self.refused(BadBase("columns"), Base, value, Aa=3)
                self.refused(BadBase("columns"), Base.of, value, value)

    def test_columns(self):
        for columns in [("x",), ("x", "y"), ("abcdefgh", "b", "c")]:
            self.same([Base(columns).columns, Base(columns=columns).names, len(Base(columns))], [columns, (), 0])
        for columns in [(), ("y", "x"), ("x", "x"), ("a", "b", "c", "d"), ["x"], "x", ("x", 1), ("X",), ("null",),
                        ("self",), ("columns",), ("x", None)]:
            self.refused(BadBase("columns"), Base, columns)

    def test_keywords_that_are_no_names(self):
        for name in WRONG_NAMES:
            if name != "columns":
                self.refused(BadName(name), Base, ("x",), **{name: Bag(), "a": 7})
            self.refused(BadName(name), Base.of, ("x",), {name: Bag(), "a": 7})
            self.refused(BadName(name), Base(("x",)).with_bag, name, Bag())
        self.refused(BadName("A"), Base, ("x",), a1=Bag(), A=5, null=Bag())
        self.refused(BadName("null"), Base.of, ("x",), {"of": 3, "null": 3, "a": 3})
        self.refused(BadName("self"), Base.of, ("x",), {"self": Bag()})

    def test_any_value_as_bag(self):
        for value in any_values():
            is_right = isinstance(value, Bag) and value.width in (None, 1)
            if not is_right:
                self.refused(BadBase("b"), Base, ("x",), b=value, a=Bag(), c=value)
                self.refused(BadBase("b"), Base.of, ("x",), {"c": value, "b": value})
                self.refused(BadBase("b"), Base(("x",)).with_bag, "b", value)
            else:
                self.assertEqual(Base(("x",), b=value)["b"], value)

    def test_widths(self):
        self.refused(BadBase("a"), Base, ("x", "y"), a=Bag(((1,), 1)), b=Bag(((1, 2), 1)))
        self.refused(BadBase("b"), Base, ("x", "y"), a=Bag(), b=Bag(((1, 2, 3), 1)), c=5)
        self.assertEqual(len(Base(("x", "y"), a=Bag(), b=Bag(((1, 2), 1)))), 2)

    def test_eight_tables(self):
        bags = {name: Bag() for name in "abcdefgh"}
        base = Base(("x",), **bags)
        self.assertEqual([len(base), len(Base.of(("x",), bags))], [8, 8])
        self.refused(TooMany("tables", 8), Base, ("x",), i=Bag(), **bags)
        self.refused(TooMany("tables", 8), Base.of, ("x",), {**bags, "i": Bag()})
        self.refused(TooMany("tables", 8), base.with_bag, "i", Bag())
        self.assertEqual(base.with_bag("h", Bag(((1,), 1)))["h"].whole, 1)

    def test_order_of_errors(self):
        bags = {name: Bag() for name in "abcdefgh"}
        self.refused(BadBase("columns"), Base.of, (), {1: 2})
        self.refused(BadBase("bags"), Base.of, ("x",), {1: 2, "A": 5})
        self.refused(BadName("A"), Base.of, ("x",), {**bags, "i": 5, "A": 5})
        self.refused(BadBase("i"), Base.of, ("x",), {**bags, "i": 5})

    def test_of_any_value(self):
        for value in any_values():
            is_right = type(value) is dict and all(type(key) is str for key in value)
            if not is_right:
                self.refused(BadBase("bags"), Base.of, ("x",), value)
        self.assertEqual(Base.of(columns=("x",), bags={"a": Bag()}), Base(("x",), a=Bag()))

    def test_what_is_done_to_an_argument_later(self):
        bags = {"a": Bag(((1,), 1))}
        one, other = Base.of(("x",), bags), Base(("x",), **bags)
        bags["a"] = Bag()
        bags["b"] = Bag()
        self.same([one.names, str(one["a"]), other.names, str(other["a"])], [("a",), "1 of 1"] * 2)


class AskingTest(Case):

    def test_properties(self):
        base = base_of_three()
        self.same([base.columns, base.names, len(base)], [("x", "y"), ("a", "b", "empties"), 3])
        self.same(list(base), ["a", "b", "empties"])
        self.same([str(base["a"]), str(base["b"]), str(base["empties"])], ["2 of null 5", "1 of 0 2, 3 of 1 null", "none"])

    def test_any_value_as_name(self):
        base = Base(("x",), x=Bag(((1,), 1)), a=Bag())
        for value in any_values():
            is_table = type(value) is str and value in "ax" and len(value) == 1
            self.same(value in base, is_table)
            if is_table:
                self.assertEqual(type(base[value]), Bag)
            else:
                self.refused(NoTable(value), lambda: base[value])

    def test_rows(self):
        base = base_of_three()
        self.same(list(base.rows()), [(0, 2), (1, None), (None, 5)])
        self.assertTrue(inspect.isgenerator(base.rows()))
        rows = [(3,), (None,), (-1,), (10,), (2,)]
        many = Base(("x",), a=Bag.of(rows), b=Bag.of(rows[:3]), c=Bag.of([(5,), (2,)]))
        self.same(list(many.rows()), [(-1,), (2,), (3,), (5,), (10,), (None,)])
        self.same(list(Base(("x",), a=Bag()).rows()), [])
        tables = {name: Bag.of([(8 * at + place,) for at in range(60)]) for place, name in enumerate("abcdefgh")}
        self.same(list(Base(("x",), **tables).rows()), [(at,) for at in range(480)])

    def test_numbers_and_values(self):
        base = base_of_three()
        self.same(base.numbers((1, None)), {"a": 0, "b": 3, "empties": 0})
        self.same(base.numbers(row=(7, 7)), {"a": 0, "b": 0, "empties": 0})
        self.same(base.values_of((1, None)), {"x": 1, "y": None})
        self.same(base.values_of(row=(7, 7)), {"x": 7, "y": 7})
        base.numbers((1, None))["a"] = 5
        base.values_of((1, None)).clear()
        self.same([base.numbers((1, None))["a"], base.values_of((1, None))], [0, {"x": 1, "y": None}])

    def test_any_value_as_row(self):
        one, two = Base(("x",), a=Bag(((1,), 2))), base_of_three()
        for base, width in ((one, 1), (two, 2)):
            for value in any_values():
                is_row = type(value) is tuple and len(value) == width and all(
                    item is None or is_integer(item) for item in value)
                for call in (base.numbers, base.values_of, base.only):
                    if not is_row:
                        self.refused(BadRow("row"), call, value)
                    else:
                        call(value)
            self.refused(BadRow("row"), base.numbers, (True,) * width)
            self.refused(BadRow("row"), base.only, [1] * width)
            self.refused(BadRow("row"), base.values_of, (1,) * (width + 1))


class ChangingTest(Case):

    def test_with_bag(self):
        base = base_of_three()
        more = base.with_bag("c", Bag(((9, 9), 1))).with_bag(bag=Bag(), name="a")
        self.same([more.names, str(more["a"]), str(more["c"])], [("a", "b", "c", "empties"), "none", "1 of 9 9"])
        self.same(list(more.rows()), [(0, 2), (1, None), (9, 9)])
        self.assertEqual(base, base_of_three())

    def test_with_bag_and_any_name(self):
        base = Base(("x",))
        for value in any_values():
            if not (type(value) is str and value in ("a", "x", "letters")):
                self.refused(BadName(value), base.with_bag, value, 5)
        self.refused(BadBase("a"), base.with_bag, "a", Bag(((1, 2), 1)))

    def test_only(self):
        base = base_of_three()
        alone = base.only((1, None))
        self.same([alone.columns, alone.names], [base.columns, base.names])
        self.same([str(alone[name]) for name in alone], ["none", "3 of 1 null", "none"])
        self.same([list(base.only(row=(4, 4)).rows()), len(base.only((4, 4)))], [[], 3])

    def test_filled(self):
        base = Base(("x",), a=Bag(((1,), 3), ((7,), 1)), b=Bag(((1,), 1), ((None,), 2)))
        a, b = Table("a"), Table("b")
        filled = base.filled({"d": a - b, "a": b % Missing("x"), "c": Empty()})
        self.same([filled.columns, filled.names], [("x",), ("a", "c", "d")])
        self.same([str(filled[name]) for name in filled], ["2 of null", "none", "2 of 1, 1 of 7"])
        self.assertEqual(base.filled(parts={}), Base(("x",)))
        self.assertEqual(base.filled({"a": a, "b": b}), base)

    def test_filled_with_any_value(self):
        base = Base(("x",), a=Bag())
        for value in any_values():
            if type(value) is not dict:
                self.refused(BadQuestion("parts"), base.filled, value)
            if not isinstance(value, Question):
                self.refused(BadQuestion("b"), base.filled, {"c": value, "b": value, "a": Table("a")})
                self.refused(BadQuestion("B b"), base.filled, {"b": value, "B b": value, 1: 2})

    def test_filled_errors_and_their_order(self):
        base = Base(("x",), a=Bag(((1,), 10 ** 30)))
        a, b = Table("a"), Table("b")
        self.refused(BadQuestion("e"), base.filled, {"a": b, "e": None, "B": a})
        self.refused(NoTable("b"), base.filled, {"c": a * 2, "b": b, "d": b})
        self.refused(NoColumn("y"), base.filled, {"c": a % Missing("y"), "d": b})
        self.refused(TooMany("times", 10 ** 30), base.filled, {"c": a * 2, "d": b, "null": a})
        self.refused(BadName("NULL"), base.filled, {"NULL": a, "b": a, "null": a})
        names = "abcdefghi"
        self.refused(TooMany("tables", 8), base.filled, {name: a for name in names})
        self.refused(BadName("null"), base.filled, {"null": a, **{name: a for name in names}})
        self.same(len(base.filled({name: a for name in names[:8]})), 8)

    def test_keys_that_are_no_strings_play_no_part(self):
        base = Base(("x",), a=Bag(((1,), 1)))
        self.assertEqual(base.filled({"a": Table("a"), 1: Table("b"), None: 5, (): ()}), base)

    def test_filled_changes_no_argument(self):
        base, parts = Base(("x",), a=Bag(((1,), 1))), {"b": Table("a"), "a": Empty()}
        filled = base.filled(parts)
        self.assertEqual(parts, {"b": Table("a"), "a": Empty()})
        parts["b"] = Empty()
        self.same([str(filled["b"]), str(base["a"])], ["1 of 1", "1 of 1"])

    def test_equality(self):
        one, bag = base_of_three(), Bag(((1, 2), 1))
        self.same([one == base_of_three(), one != base_of_three()], [True, False])
        others = [one.with_bag("a", bag), one.with_bag("c", Bag()), one.only((0, 2)), Base(("x", "z"), **dict(
            (name, one[name]) for name in one)), *any_values()]
        for other in others:
            self.same([one == other, one != other], [False, True])
        self.assertEqual(Base(("x",), a=Bag(), b=Bag()), Base(("x",), b=Bag(), a=Bag()))


class CountsTest(Case):

    def test_a_row_hangs_on_its_values_and_counts_alone(self):
        base = Base(("x",), a=Bag(((1,), 3), ((7,), 1), ((None,), 2)), b=Bag(((1,), 1), ((None,), 2)))
        a, b = Table("a"), Table("b")
        questions = [a - b, a | b, (a * 2) % Has(b), a // (Below("x", 5) | ~Has(a - b)), (a & b) + a % Missing("x")]
        for question in questions:
            for row in base.rows():
                number = question(base).often(row)
                self.same(question(base.only(row)).often(row), number)
                self.same(question.often(base.values_of(row), base.numbers(row)), number)
                self.same(question(base.only(row)).whole, number)


if __name__ == "__main__":
    unittest.main()
