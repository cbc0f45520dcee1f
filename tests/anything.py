"""What the tests share: any values, and a case that looks at errors and their fields."""

import unittest

from rowcounts.bags import Bag
from rowcounts.bases import Base
from rowcounts.branches import Branch, Open
from rowcounts.errors import BadBag
from rowcounts.forms import Bound
from rowcounts.questions import Empty, Table
from rowcounts.truths import Below, Has, Missing


def any_values():
    """New values of all kinds, of which a call may be passed any one."""
    nested = {"a": [(None, True), {"b": [[0, (1,)], "x"]}], 3: (), (1, 2): {}}
    return [
        None, True, False, 0, 1, 5, -1, 9, 10, 10 ** 30, 10 ** 30 + 1, -10 ** 60, 10 ** 60,
        "", " ", "a", "x", "none", "null", "self", "columns", "Abc", "a b", "letters", "nineisntok", "ab\ncd", "~!\n",
        "x < 5", "1 of 1", "1 -1 >= 0", "z" * 3000,
        (), (0,), (1,), (True,), (None,), (1, 2, 3), (1, 2, 3, 4), ("a",), ("x", "y"), ((1,), 2), ([1],), ((),),
        [], [0], [1, 2], [True], ["x"], [(1,)], [[]],
        {}, {"a": 1}, {"a": True}, {"x": None}, {1: 2}, {"a": []}, {(): ()}, nested, [nested], (nested,),
        Bag(), Bag(((1,), 2)), Base(("x",)), Base(("x", "y"), a=Bag(((1, None), 3))),
        Table("a"), Empty(), Table("a") - Table("b"), Below("x", 5), Missing("y"), Has(Table("a")), ~Below("x", 1),
        Bound((1, -1)), Bound((), True), Branch(("a",)), Branch(("a", "b"), Bound((1, 2))), Open((1, 2)), BadBag("rows"),
    ]


def is_integer(value):
    return isinstance(value, int) and not isinstance(value, bool)


def alike(one, other):
    """Whether two values are the same one, or equal and of equal kinds throughout."""
    if one is other:
        return True
    if type(one) is not type(other):
        return False
    if isinstance(one, (list, tuple)):
        return len(one) == len(other) and all(alike(a, b) for a, b in zip(one, other))
    if isinstance(one, dict):
        pairs = zip(one.items(), other.items())
        return len(one) == len(other) and all(alike(k, m) and alike(v, w) for (k, v), (m, w) in pairs)
    return one == other


class Case(unittest.TestCase):
    """A case that looks at errors, their classes and their fields."""

    def refused(self, error, call, *told, **named):
        """A call raises an error of just this class, with just these fields."""
        try:
            found = call(*told, **named)
        except Exception as caught:
            self.assertIs(type(caught), type(error), f"{caught!r} instead of {error!r} for {told} {named}")
            self.assertTrue(alike(vars(caught), vars(error)), f"{vars(caught)} instead of {vars(error)} for {told}")
            return
        self.fail(f"{found!r} instead of {error!r} for {told} {named}")

    def same(self, one, other):
        """Two values are equal, and their kinds, too."""
        self.assertTrue(alike(one, other), f"{one!r} is not {other!r}")
