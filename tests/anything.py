"""What the tests share: any values, and a case that looks at errors and their fields."""

import unittest

from rowcounts.bags import Bag
from rowcounts.bases import Base
from rowcounts.books import Book
from rowcounts.branches import Branch, Open
from rowcounts.desk import Desk
from rowcounts.errors import BadBag
from rowcounts.forms import Bound
from rowcounts.judge import Agreed, Leaf, Parted, Shown, Split
from rowcounts.kinds import Kind
from rowcounts.plans import Plan
from rowcounts.questions import Empty, Table
from rowcounts.rewrites import Rewrite
from rowcounts.rooms import Later, Piece, Room, Share
from rowcounts.rules import Alike, Apart, Within
from rowcounts.stores import Store
from rowcounts.texts import store_text
from rowcounts.truths import Below, Has, Missing
from rowcounts.weights import Clash, Point


def any_values():
    """New values of all kinds, of which a call may be passed any one."""
    nested = {"a": [(None, True), {"b": [[0, (1,)], "x"]}], 3: (), (1, 2): {}}
    return [
        None, True, False, 0, 1, 5, -1, 9, 10, 10 ** 30, 10 ** 30 + 1, -10 ** 60, 10 ** 60,
        "", " ", "a", "x", "none", "null", "self", "columns", "Abc", "a b", "letters", "nineisntok", "ab\ncd", "~!\n",
        "x < 5", "1 of 1", "1 -1 >= 0", "z" * 3000,
        (), (0,), (1,), (True,), (None,), (1, 2, 3), (1, 2, 3, 4), ("a",), ("x", "y"), ((1,), 2), ([1],), ((),),
        [], [0], [1, 2], [True], ["x"], [(1,)], [[]],
        {}, {"a": 1}, {"a": True}, {"x": None}, {1: 2}, {"a": []}, {(): ()}, nested, [nested], (nested,),
        Bag(), Bag(((1,), 2)), Base(("x",)), Base(("x", "y"), a=Bag(((1, None), 3))),
        Table("a"), Empty(), Table("a") - Table("b"), Below("x", 5), Missing("y"), Has(Table("a")), ~Below("x", 1),
        Bound((1, -1)), Bound((), True), Branch(("a",)), Branch(("a", "b"), Bound((1, 2))), Open((1, 2)), BadBag("rows"),
        Point((1, 2)), Point([1]), Clash((1, 0)), Clash(None), Kind((), ()), Kind((("x", 5),), (True,)),
        Leaf((1, 0)), Leaf([]), Split((1,), Leaf((1,)), Leaf((0, 1))), Shown((Leaf((1,)),)), Shown(5), Shown(()),
        Agreed(Shown(()), Shown(())), Agreed(1, 2), Parted((), {"a": 1}), Parted((("x", None),), {}), Parted([], None),
        Within(Table("a"), Table("b")), Alike(Table("a"), Empty()), Apart(Table("a"), Table("b")),
        Book(), Book(Within(Table("a"), Table("b"))), Rewrite(Table("a"), Table("a")), Plan(Table("a")),
        Plan(Table("a"), Rewrite(Table("a"), Table("a"))), Piece((1, 0), (1, 2)), Piece([1], None), Share((1,), 1),
        Share((), True), Room(1, (Piece((1,), (1,)),), Share((1,), 1)), Room(0, (), {"a": 1}), Later({"a": 1}, 0, 1),
        Store(Base(("x",))), Store(Base(("x",), a=Bag(((1,), 2))), Within(Table("a"), Table("a"))), Desk(Store(Base(("x",)))),
    ]


PAPERS = (Open, Point, Clash, Kind, Leaf, Split, Shown, Agreed, Parted, Piece, Share, Room, Later)


def repr_of(value):
    """A text of a value that tells its kind and all that is in it."""
    if isinstance(value, (list, tuple)):
        return type(value).__name__ + str([repr_of(item) for item in value])
    if isinstance(value, dict):
        return "dict" + str(sorted((repr_of(key), repr_of(item)) for key, item in value.items()))
    if isinstance(value, Base):
        return f"Base {value.columns} {[(name, str(value[name])) for name in value]}"
    if isinstance(value, Branch):
        return f"Branch {value.names} {[str(bound) for bound in value]}"
    if isinstance(value, Plan):
        return f"Plan {value.begun} {value.question} {[str(one) for one in value.rewrites]} {value.log}"
    if isinstance(value, Store):
        return f"Store {store_text(value)}"
    if isinstance(value, PAPERS):
        return f"{type(value).__name__} {repr_of(vars(value))}"
    return type(value).__name__ + " " + (str(id(value)) if isinstance(value, Exception) else str(value))


def is_integer(value):
    return isinstance(value, int) and not isinstance(value, bool)


def alike(one, other):
    """Whether two values are the same one, or equal and of equal kinds throughout."""
    if one is other:
        return True
    if type(one) is not type(other):
        return False
    if isinstance(one, (list, tuple)):
        return len(one) == len(other) and all(alike(a, b) for a, b in zip(one, other))
    if isinstance(one, dict):
        pairs = zip(one.items(), other.items())
        return len(one) == len(other) and all(alike(k, m) and alike(v, w) for (k, v), (m, w) in pairs)
    return one == other


class Case(unittest.TestCase):
    """A case that looks at errors, their classes and their fields."""

    def refused(self, error, call, *told, **named):
        """A call raises an error of just this class, with just these fields."""
        try:
            found = call(*told, **named)
        except Exception as caught:
            self.assertIs(type(caught), type(error), f"{caught!r} instead of {error!r} for {told} {named}")
            self.assertTrue(alike(vars(caught), vars(error)), f"{vars(caught)} instead of {vars(error)} for {told}")
            return
        self.fail(f"{found!r} instead of {error!r} for {told} {named}")

    def check_paper(self, paper, *fields):
        """A paper keeps any values, as they are when it is made, and equals what has the same class and attributes."""
        for at, field in enumerate(fields):
            def made(value):
                return paper(*[value if place == at else 5 for place in range(len(fields))])
            told = [(value, repr_of(value), made(value)) for value in any_values()]
            for value, text, one in told:
                self.assertEqual(repr_of(vars(one)[field]), text)
                self.assertTrue(one == paper(**{**dict.fromkeys(fields, 5), field: value}))
                self.same([one == value, one != value, one == 5], [False, True, False])
                for _, other, another in told:
                    self.same([one == another, one != another], [text == other, text != other])
            for one, other in ((1, True), (0, False), ((1,), (True,)), ([0], [False]), ((), []), ({1: 2}, {True: 2})):
                self.same(made(one) == made(other), False)
            inner, table = [1], {"a": [2]}
            kept = made((inner, table))
            inner.append(2)
            table["a"].append(3)
            table["b"] = 4
            self.same(vars(kept)[field], ([1], {"a": [2]}))

    def same(self, one, other):
        """Two values are equal, and their kinds, too."""
        self.assertTrue(alike(one, other), f"{one!r} is not {other!r}")
