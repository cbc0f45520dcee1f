"""Promises [11] and kinds.py."""

import random
import unittest

from anything import Case, any_values
from judging import kinds_told
from rowcounts.bases import Base
from rowcounts.errors import BadTest, TooMany
from rowcounts.kinds import Kind, kinds
from rowcounts.truths import Below, Condition, Equals, Has, Missing, UpTo
from rowcounts.questions import Table
from trees import made_of

GREAT = 10 ** 60 - 1


def some_conditions(dice, columns="xyz", most=3):
    return [(dice.choice(["<", "<=", "=", "null"]), dice.choice(columns), dice.choice([-1, 0, 0, 1, 2, 5]))
            for _ in range(dice.randrange(most + 1))]


class KindsTest(Case):

    def test_against_all_combinations(self):
        dice = random.Random(59)
        for _ in range(600):
            told = some_conditions(dice, dice.choice(["x", "xy", "xyz"]))
            conditions = [made_of(one) for one in told]
            found = kinds(*conditions)
            self.same(type(found), tuple)
            self.same([(kind.row, kind.truths) for kind in found], kinds_told(told))
            dice.shuffle(conditions)
            self.assertEqual(kinds(*conditions, *conditions[:1]), found)

    def test_each_row_has_the_truths_of_one_kind(self):
        dice = random.Random(61)
        for _ in range(200):
            conditions = [made_of(one) for one in some_conditions(dice)]
            texts = {str(one): one for one in conditions}
            found = [kind.truths for kind in kinds(*conditions)]
            for _ in range(20):
                values = {column: dice.choice([None, *range(-4, 9)]) for column in "xyz"}
                truths = tuple(texts[text].truth(values) for text in sorted(texts))
                self.same(found.count(truths), 1)
            for kind in kinds(*conditions):
                self.same(kind.truths, tuple(texts[text].truth(dict(kind.row)) for text in sorted(texts)))

    def test_told_ones(self):
        self.same([(kind.row, kind.truths) for kind in kinds(UpTo("x", 5))],
                  [((("x", 4),), (True,)), ((("x", 6),), (False,)), ((("x", None),), (None,))])
        self.same([(kind.row, kind.truths) for kind in kinds(Equals("x", -5))],
                  [((("x", -6),), (False,)), ((("x", -5),), (True,)), ((("x", None),), (None,))])
        self.same([(kind.row, kind.truths) for kind in kinds(Missing("x"))],
                  [((("x", 0),), (False,)), ((("x", None),), (True,))])
        self.same([(kind.row, kind.truths) for kind in kinds()], [((), ())])
        self.same([kind.row for kind in kinds(Missing("y"), Below("x", 5))],
                  [(("x", x), ("y", y)) for x in (4, 5, None) for y in (0, None)])
        self.same([kind.truths for kind in kinds(Below("x", 5), Below("x", 10), Missing("x"))],
                  [(True, True, False), (True, False, False), (False, False, False), (None, None, True)])

    def test_the_order_is_that_of_the_texts(self):
        """x < 10 stands ahead of x < 9 by its text."""
        found = kinds(Below("x", 9), Below("x", 10))
        self.same([(kind.row, kind.truths) for kind in found], [
            ((("x", 8),), (True, True)), ((("x", 9),), (True, False)), ((("x", 10),), (False, False)),
            ((("x", None),), (None, None))])
        negative = kinds(Below("x", -9), Below("x", -10))
        self.same([kind.row for kind in negative], [(("x", value),) for value in (-11, -10, -9, None)])

    def test_great_numbers(self):
        self.same([kind.row for kind in kinds(Below("x", GREAT), UpTo("x", GREAT))],
                  [(("x", value),) for value in (GREAT - 1, GREAT, GREAT + 1, None)])

    def test_three_columns(self):
        found = kinds(Below("x", 1), Equals("y", 2), UpTo("z", 3))
        self.same(len(found), 27)
        self.same([found[0].row, found[-1].row], [(("x", 0), ("y", 1), ("z", 2)), (("x", None), ("y", None), ("z", None))])

    def test_rows_of_a_base(self):
        low, gone = Below("x", 1), Missing("y")
        base = Base(("x", "y"))
        for row in [(0, 0), (1, None), (None, 5), (None, None), (-9, None)]:
            truths = (low.truth(base.values_of(row)), gone.truth(base.values_of(row)))
            self.same([kind.truths for kind in kinds(low, gone)].count(truths), 1)

    def test_a_paper(self):
        self.check_paper(Kind, "row", "truths")
        for value in any_values():
            self.same(bool(Kind(value, value)), True)


class WrongTest(Case):

    def test_any_value(self):
        for value in [*any_values(), Has(Table("a")), Below("x", 1) & Missing("y"), ~Missing("x")]:
            if not isinstance(value, Condition):
                self.refused(BadTest("condition"), kinds, value)
                self.refused(BadTest("condition"), kinds, Below("x", 1), value, Missing("x"))

    def test_more_than_three(self):
        four = [Below("x", 1), Below("x", 2), Below("x", 3), Missing("x")]
        self.refused(TooMany("conditions", 3), kinds, *four)
        self.refused(TooMany("conditions", 3), kinds, *four, *four)
        self.refused(BadTest("condition"), kinds, *four, None)
        self.same(len(kinds(*four[:3], *four[:3], Below("x", 1))), 5)


if __name__ == "__main__":
    unittest.main()
