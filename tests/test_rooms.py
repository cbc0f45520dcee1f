"""Promises [2], [9], [10], [12], [14] and rooms.py."""

import fractions
import itertools
import random
import unittest

from anything import Case, any_values, is_integer
from rowcounts.errors import BadCounts, BadQuestion, TooMany
from rowcounts.forms import Bound
from rowcounts.judge import Leaf, Split
from rowcounts.questions import Empty, Question, Table
from rowcounts.rooms import Later, Piece, Room, Share, pieces, room, shows_room, told_apart
from rowcounts.truths import Below, Has
from rowcounts.weights import settled
from test_branches import OpenAt, form_of_tree
from test_look_judge import bent_numbers, some_of
from test_rules import big
from trees import leaves_of, made_of, number_of, size_of, some_question

A, B, C, D, E = (Table(name) for name in "abcde")


def names_of(tree):
    return tuple(sorted(leaves_of(tree)[0]))


def unit(name, names):
    return tuple(int(name == other) for other in names)


def plus(form, other, times=1):
    return tuple(a + times * b for a, b in zip(form, other))


def value_of(form, point):
    return sum(a * b for a, b in zip(form, point))


def joined(kind, one, other, is_more):
    """The form of a comparison, or of a sum."""
    if kind == "+":
        return plus(one, other)
    if kind == "-":
        return plus(one, other, -1) if is_more else (0,) * len(one)
    return one if is_more == (kind == "|") else other


def sides_of(tree, names):
    """All pairs of a form and the sides with which a tree is it, each side a form that is above 0."""
    kind = tree[0]
    if kind in ("table", "empty"):
        return [(unit(tree[1], names) if kind == "table" else (0,) * len(names), ())]
    if kind == "*":
        return [(tuple(tree[1] * factor for factor in form), sides) for form, sides in sides_of(tree[2], names)]
    found = {}
    for (one, first), (other, last) in itertools.product(sides_of(tree[1], names), sides_of(tree[2], names)):
        rest = plus(one, other, -1)
        both = tuple(sorted({*first, *last}))
        if kind == "+" or not any(rest):
            found[joined(kind, one, other, True), both] = True
        else:
            found[joined(kind, one, other, True), tuple(sorted({*both, rest}))] = True
            found[joined(kind, one, other, False), tuple(sorted({*both, tuple(-a for a in rest)}))] = True
    return [pair for pair in found if holds_somewhere(pair[1], names)]


def holds_somewhere(sides, names):
    units = [unit(name, names) for name in names]
    return bool(settled([Bound(form, True) for form in (*units, *sides)], len(names)))


def own_forms(tree):
    """The forms of all pieces, ascending, by a going through all sides of comparisons."""
    return sorted({form for form, _ in sides_of(tree, names_of(tree))})


def form_inside(tree, names, point):
    """The form that a tree is inside at a point, or None."""
    kind = tree[0]
    if kind in ("table", "empty"):
        return unit(tree[1], names) if kind == "table" else (0,) * len(names)
    if kind == "*":
        form = form_inside(tree[2], names, point)
        return form and tuple(tree[1] * factor for factor in form)
    one, other = form_inside(tree[1], names, point), form_inside(tree[2], names, point)
    if one is None or other is None:
        return None
    above, below = value_of(one, point), value_of(other, point)
    return None if kind != "+" and above == below and one != other else joined(kind, one, other, above >= below)


def rank_of(forms):
    """How many of some forms are independent, by fractions."""
    rows = [[fractions.Fraction(factor) for factor in form] for form in forms]
    rank = 0
    for at in range(len(rows[0]) if rows else 0):
        found = next((row for row in rows if row[at]), None)
        if found is not None:
            rank += 1
            rows = [[a - row[at] / found[at] * b for a, b in zip(row, found)] for row in rows if row is not found]
    return rank


def own_kept(forms):
    """The first forms of which each is independent of those ahead of it."""
    found = []
    for form in forms:
        if rank_of([*found, form]) > len(found):
            found.append(form)
    return found


def is_room(tree, value):
    """The own reckoning of shows_room."""
    names = names_of(tree)
    if type(value) is not Room or type(value.kept) is not tuple or not is_integer(value.rank):
        return False
    if value.rank != len(value.kept) or not all(is_piece(tree, names, piece) for piece in value.kept):
        return False
    forms = [piece.form for piece in value.kept]
    if rank_of(forms) != len(forms) or many_leaves(value.tree) > 3000:
        return False
    return is_tree(tree, names, forms, value.tree, [Bound(unit(name, names), True) for name in names], 0)


def many_leaves(tree):
    return many_leaves(tree.yes) + many_leaves(tree.no) if type(tree) is Split else 1


def are_integers(value, many):
    return type(value) is tuple and len(value) == many and all(is_integer(number) for number in value)


def is_piece(tree, names, piece):
    if type(piece) is not Piece or not are_integers(piece.form, len(names)) or not are_integers(piece.point, len(names)):
        return False
    return min(piece.point, default=1) >= 1 and form_inside(tree, names, piece.point) == piece.form


def is_tree(tree, names, forms, value, bounds, depth):
    if type(value) is Split:
        if not are_integers(value.form, len(names)) or not any(value.form) or depth >= 60:
            return False
        minus = tuple(-factor for factor in value.form)
        return (is_tree(tree, names, forms, value.yes, [*bounds, Bound(value.form, True)], depth + 1)
                and is_tree(tree, names, forms, value.no, [*bounds, Bound(minus, True)], depth + 1))
    if type(value) is Leaf:
        if not are_integers(value.weights, len(bounds)) or not any(value.weights) or min(value.weights) < 0:
            return False
        return not any(sum(weight * bound.form[at] for weight, bound in zip(value.weights, bounds))
                       for at in range(len(names)))
    if type(value) is not Share or not are_integers(value.shares, len(forms)) or not is_integer(value.divisor):
        return False
    try:
        form = form_of_tree(tree, {}, names, bounds)
    except OpenAt:
        return False
    total = tuple(sum(share * kept[at] for share, kept in zip(value.shares, forms)) for at in range(len(names)))
    return value.divisor >= 1 and total == tuple(value.divisor * factor for factor in form)


def some_plain(dice, names="abc", depths=(1, 2, 3), most=10):
    while True:
        tree = some_question(dice, dice.choice(depths), names, False)
        if size_of(tree) <= most:
            return tree


class PiecesTest(Case):

    def check_pieces(self, tree):
        names, found = names_of(tree), pieces(made_of(tree))
        self.same([type(found), [piece.form for piece in found]], [tuple, own_forms(tree)])
        for piece in found:
            self.assertTrue(is_piece(tree, names, piece), tree)
        self.assertEqual(found, pieces(question=made_of(tree)))
        return len(found)

    def test_drawn_ones(self):
        dice = random.Random(167)
        many = [self.check_pieces(some_plain(dice)) for _ in range(250)]
        self.assertGreater(max(many), 5)

    def test_four_tables(self):
        dice = random.Random(173)
        many = [self.check_pieces(some_plain(dice, "abcd", (3, 4), 8)) for _ in range(60)]
        self.assertGreater(max(many), 5)

    def test_all_small_points(self):
        """At each small point inside the question is one of the pieces."""
        dice = random.Random(179)
        for _ in range(60):
            tree = some_plain(dice, "ab", (2, 3))
            names, forms = names_of(tree), {piece.form for piece in pieces(made_of(tree))}
            for point in itertools.product(range(1, 13), repeat=len(names)):
                form = form_inside(tree, names, point)
                self.assertTrue(form is None or form in forms)
                self.assertTrue(form is None or value_of(form, point) == number_of(tree, {}, dict(zip(names, point))))

    def test_told_ones(self):
        told = [(A, [(1,)]), (Empty(), [()]), (A * 0, [(0,)]), (A * 9, [(9,)]), (A - A, [(0,)]), (A & A, [(1,)]),
                (A - A * 2, [(0,)]), (A * 2 - A, [(1,)]), (A | A * 3, [(3,)]), (A & B * 0, [(0, 0)]),
                (A | Empty(), [(1,)]), (A - B * 2, [(0, 0), (1, -2)]), (A * 0 + B, [(0, 1)]),
                ((A | B) - B, [(0, 0), (1, -1)]), ((A - B) & (B - A), [(0, 0)]), ((A - B) * 2 + B, [(0, 1), (2, -1)]),
                ((A | B) - (A & B), [(-1, 1), (1, -1)]), (A + B - C, [(0, 0, 0), (1, 1, -1)]),
                ((A & B) | C, [(0, 0, 1), (0, 1, 0), (1, 0, 0)])]
        for question, forms in told:
            self.same([piece.form for piece in pieces(question)], forms)

    def test_papers_and_names(self):
        self.check_paper(Piece, "form", "point")
        self.check_paper(Share, "shares", "divisor")
        for paper in (Piece((1,), (1,)), Share((), 1), Room(0, (), None), Later({}, 0, 1)):
            self.same(bool(paper), True)


class RoomTest(Case):

    def check_room(self, tree):
        question, forms = made_of(tree), own_forms(tree)
        found = room(question)
        kept = own_kept(forms)
        self.same([found.rank, [piece.form for piece in found.kept], type(found.kept)], [len(kept), kept, tuple])
        self.same([found.rank, is_room(tree, found), shows_room(question, found)], [rank_of(forms), True, True])
        self.assertEqual(found, room(question=question))
        by_form = {piece.form: piece for piece in pieces(question)}
        self.assertEqual([by_form[piece.form] for piece in found.kept], list(found.kept))
        return found.rank

    def test_drawn_ones(self):
        dice = random.Random(181)
        ranks = [self.check_room(some_plain(dice)) for _ in range(200)]
        self.assertEqual(sorted(set(ranks)), [0, 1, 2, 3])

    def test_four_tables(self):
        dice = random.Random(191)
        ranks = [self.check_room(some_plain(dice, "abcd", (3, 4), 8)) for _ in range(50)]
        self.same(max(ranks), 4)

    def test_told_ones(self):
        told = {1: [A - B, A + B, (A - B) + (B - A), A * 3 - (A & B) * 3, A, A * 9, (A + B) - C * 2, (A | B) - (A & B)],
                0: [Empty(), A * 0, A - A, (A - B) & (B - A), Empty() & A, A - A * 2],
                2: [A & B, (A - B) + B, (A - B) + C],
                3: [A & B & C, (A & B) + (C | D), (A - B) + (B - C) + (A & C)], 4: [(A & B) | (C & D)]}
        for rank, questions in told.items():
            for question in questions:
                found = room(question)
                self.same([found.rank, len(found.kept), shows_room(question, found)], [rank, rank, True])

    def test_the_first_independent_ones(self):
        found = room((A | B) + (A & B) * 2)
        self.same([piece.form for piece in found.kept], [(1, 2), (2, 1)])
        found = room((A - B) + (B - A))
        self.same([piece.form for piece in found.kept], [(-1, 1)])

    def test_the_paper(self):
        self.check_paper(Room, "rank", "kept", "tree")

    def test_the_greatest_questions_are_answered(self):
        for question in ((((A - B) | (B - C)) & ((C - D) | (D - A))) + ((A & C) - B), A * 2 * 3 * 2 - (B & C) * 5 - D * 3,
                         (A - B * 2) + (B - C * 2) + (C - D * 2) + (D - A),
                         ((A | B) & (C | D)) - ((A & B) | (C & D)) + (A - D),
                         ((A | B) - (C & D)) | ((B | C) - (D & A)) + ((C | D) & B)):
            found = room(question)
            self.same([len(question.names), shows_room(question, found), many_leaves(found.tree) < 1000], [4, True, True])


def chain(splits, last):
    """A tree of so many Splits in a row, of a question over one table."""
    tree = last
    for at in range(splits, 0, -1):
        tree = Split((1,), tree, Leaf((1,) + (0,) * (at - 1) + (1,)))
    return tree


def bush(leaves, last):
    """A tree of so many leaves that is as flat as can be."""
    return last if leaves == 1 else Split((1,), bush(leaves - leaves // 2, last), bush(leaves // 2, last))


def bent_trees(tree, dice):
    yield from [None, (), [tree], Split(tree, tree, tree), Split((0,) * 2, tree, tree), Share((), 1), Leaf(())]
    if type(tree) is Leaf:
        yield from [Leaf(weights) for weights in bent_numbers(tree.weights)]
    elif type(tree) is Share:
        yield from [Share(shares, tree.divisor) for shares in bent_numbers(tree.shares)]
        yield from [Share(tree.shares, other) for other in (0, -1, tree.divisor + 1, True, None, "1", (1,))]
        yield from [Share(tuple(3 * share for share in tree.shares), 3 * tree.divisor),
                    Share(tuple(-share for share in tree.shares), -tree.divisor)]
    else:
        yield from [tree.yes, tree.no, Split(tree.form, tree.no, tree.yes)]
        yield from [Split(form, tree.yes, tree.no) for form in bent_numbers(tree.form)]
        yield Split(tuple(2 * factor for factor in tree.form), tree.yes, tree.no)
        yield Split(tuple(-factor for factor in tree.form), tree.no, tree.yes)
        yield from [Split(tree.form, bent, tree.no) for bent in some_of(bent_trees(tree.yes, dice), dice)]
        yield from [Split(tree.form, tree.yes, bent) for bent in some_of(bent_trees(tree.no, dice), dice)]


def bent_rooms(found, dice):
    rank, kept, tree = found.rank, found.kept, found.tree
    for other in (rank + 1, rank - 1, bool(rank), None, str(rank), 0):
        yield Room(other, kept, tree)
    for at, piece in enumerate(kept):
        for form in bent_numbers(piece.form):
            yield Room(rank, kept[:at] + (Piece(form, piece.point),) + kept[at + 1:], tree)
        for point in (*bent_numbers(piece.point), tuple(7 * number for number in piece.point)):
            yield Room(rank, kept[:at] + (Piece(piece.form, point),) + kept[at + 1:], tree)
        yield Room(rank - 1, kept[:at] + kept[at + 1:], tree)
        yield Room(rank + 1, kept + (piece,), tree)
    yield from [Room(rank, kept[::-1], tree), Room(rank, list(kept), tree), Room(rank, None, tree), Room(rank, (), tree),
                Room(rank, (None,) * rank, tree), tree, (rank, kept, tree)]
    yield from [Room(rank, kept, bent) for bent in some_of(bent_trees(tree, dice), dice)]


class ShowsTest(Case):

    def test_any_value(self):
        for tree in (("table", "a"), ("-", ("table", "a"), ("table", "b")), ("empty",)):
            for value in any_values():
                self.same(shows_room(value=value, question=made_of(tree)), is_room(tree, value))

    def test_bent_rooms(self):
        dice = random.Random(193)
        told = [0, 0]
        for _ in range(60):
            tree = some_plain(dice, dice.choice(["ab", "abc"]), (1, 2, 3), 7)
            for value in bent_rooms(room(made_of(tree)), dice):
                expected = is_room(tree, value)
                self.same(shows_room(made_of(tree), value), expected)
                told[expected] += 1
        self.assertGreater(min(told), 100)

    def test_other_pieces(self):
        """Any independent pieces will do, in any order, and any right tree."""
        question = (A | B) + (A & B) * 2
        found = room(question)
        one, other = found.kept
        turned = Split((1, -1), Share((1, 0), 1), Share((0, 1), 1))
        self.same([shows_room(question, Room(2, (one, other), turned)), shows_room(question, Room(2, (other, one), turned)),
                   shows_room(question, Room(2, (other, one), Split((-2, 2), Share((1, 0), 1), Share((0, 1), 1)))),
                   shows_room(question, Room(2, (one, one), found.tree))], [True, False, True, False])
        half = room(A * 2 - B * 2)
        self.same([[piece.form for piece in half.kept], shows_room(A * 2 - B * 2, half)], [[(2, -2)], True])
        far = Piece((1, -1), (9, 2))
        tree = Split((1, -1), Share((3,), 3), Share((0,), 7))
        self.same([shows_room(A - B, Room(1, (far,), tree)), shows_room(A - B, Room(1, (Piece((1, -1), (2, 2)),), tree)),
                   shows_room(A - B, Room(1, (Piece((1, -1), (1, 2)),), tree)),
                   shows_room(A - B, Room(1, (Piece((0, 0), (1, 2)),), tree)),
                   shows_room(A - B, Room(0, (), tree))], [True, False, False, False, False])

    def test_leaves_that_hold_nowhere(self):
        kept = (Piece((1, -1), (2, 1)),)
        below = Split((-1, 0), Leaf((1, 0, 0, 1)), Share((0,), 1))
        self.same(shows_room(A - B, Room(1, kept, Split((1, -1), Share((1,), 1), below))), True)
        self.same(shows_room(A - B, Room(1, kept, Split((1, -1), Share((1,), 1), Leaf((1, 0, 1))))), False)
        wall = Split((1, 1), Split((1, -1), Share((1,), 1), Share((0,), 1)), Leaf((1, 1, 1)))
        self.same(shows_room(A - B, Room(1, kept, wall)), True)

    def test_sixty_splits_and_three_thousand_leaves(self):
        kept = (Piece((1,), (1,)),)
        for splits in (0, 1, 59, 60, 61, 300):
            self.same(shows_room(A, Room(1, kept, chain(splits, Share((1,), 1)))), splits <= 60)
        for leaves in (1, 2999, 3000, 3001):
            self.same(shows_room(A, Room(1, kept, bush(leaves, Share((1,), 1)))), leaves <= 3000)
        tree = Share((1,), 1)
        for _ in range(5000):
            tree = Split((1,), tree, tree)
        self.same(shows_room(A, Room(1, kept, tree)), False)


class ErrorsTest(Case):

    def refused_by_all(self, error, question):
        told = {name: 1 for name in "abcde"}
        self.refused(error, pieces, question)
        self.refused(error, room, question=question)
        self.refused(error, shows_room, question, None)
        self.refused(error, shows_room, value=5, question=question)
        self.refused(error, told_apart, question, told, told)
        self.refused(error, told_apart, question, None, None)

    def test_any_value(self):
        for value in any_values():
            if not isinstance(value, Question):
                self.refused_by_all(BadQuestion("question"), value)

    def test_order_and_sizes(self):
        five = A + B + C + D + E
        self.refused_by_all(BadQuestion("plain"), A % Below("x", 5))
        self.refused_by_all(BadQuestion("plain"), five // Has(A) * 1 * 1 * 1 * 1 * 1 * 1)
        self.refused_by_all(TooMany("tables", 4), five)
        self.refused_by_all(TooMany("tables", 4), five + big(20))
        self.refused_by_all(TooMany("operators", 10), big(11))
        self.same([room(big(10)).rank, room(A + B + C + D).rank, len(pieces(big(10)))], [1, 1, 1])

    def test_counts(self):
        question, right = A - B, {"a": 1, "b": 0}
        wrong = [{"a": 1}, {"a": 1, "b": -1}, {"a": 1, "b": True}, {"a": 1, "b": None}, {"a": "1", "b": 1}, {}, [("a", 1)]]
        for value in [*wrong, *[value for value in any_values() if type(value) is not dict]]:
            self.refused(BadCounts("counts"), told_apart, question, value, right)
            self.refused(BadCounts("counts"), told_apart, question, value, value)
            self.refused(BadCounts("others"), told_apart, question, others=value, counts=right)
        for value in any_values():
            if type(value) is dict:
                told = {"a": 2, "b": 1}
                extended = {**value, **told}
                self.same(told_apart(question, right, extended), None)
                self.same(told_apart(question, extended, right), None)
        self.same(told_apart(Empty(), {}, {5: 5, "zz": -1, None: None}), None)


class LaterTest(Case):

    def check_later(self, tree, counts, others):
        """What told_apart tells, by the own reckoning; whether the two are told apart."""
        names, found = names_of(tree), told_apart(made_of(tree), counts, others)
        ones, twos = [counts[name] for name in names], [others[name] for name in names]
        apart = any(value_of(form, ones) != value_of(form, twos) for form in own_forms(tree))
        self.same(found is not None, apart)
        if found is None:
            for put in itertools.product((0, 1, 2, 5), repeat=len(names)):
                told = [number_of(tree, {}, {name: row[name] + more for name, more in zip(names, put)})
                        for row in (counts, others)]
                self.same(told[0], told[1])
            return False
        self.assertEqual([type(found), sorted(found.counts)], [Later, list(names)])
        self.assertTrue(all(is_integer(number) and number >= 0 for number in found.counts.values()))
        told = [number_of(tree, {}, {name: row[name] + found.counts[name] for name in names}) for row in (counts, others)]
        self.same([found.one, found.other, found.one != found.other], [*told, True])
        self.assertEqual(found, told_apart(made_of(tree), others=others, counts=counts))
        return True

    def test_drawn_ones(self):
        dice = random.Random(197)
        told = [0, 0]
        for _ in range(500):
            tree = some_plain(dice, dice.choice(["ab", "abc"]), (1, 2, 3), 8)
            shift = dice.choice([0, 0, 1, 2])
            counts = {name: dice.choice([0, 1, 2, 5, 10 ** 30]) for name in "abc"}
            others = {name: counts[name] + shift for name in "abc"}
            if dice.random() < 0.4:
                others[dice.choice("abc")] += dice.choice([1, 3])
            told[self.check_later(tree, counts, others)] += 1
        self.assertGreater(min(told), 100)

    def test_told_ones(self):
        less = ("-", ("table", "a"), ("table", "b"))
        self.same([self.check_later(less, {"a": 5, "b": 3}, {"a": 4, "b": 2}),
                   self.check_later(less, {"a": 1, "b": 2}, {"a": 1, "b": 1}),
                   self.check_later(less, {"a": 10 ** 30, "b": 0}, {"a": 10 ** 30 - 1, "b": 0}),
                   self.check_later(less, {"a": 0, "b": 10 ** 60}, {"a": 0, "b": 10 ** 60 + 1}),
                   self.check_later(("&", ("table", "a"), ("table", "b")), {"a": 1, "b": 0}, {"a": 0, "b": 1}),
                   self.check_later(("*", 0, ("table", "a")), {"a": 1}, {"a": 2})],
                  [False, True, True, True, True, False])

    def test_further_keys(self):
        counts, others = {"a": 5, "b": 3, "c": -1, 7: None}, {"a": 4, "b": 2, "z": [], (1,): {}}
        before = [dict(counts), dict(others)]
        self.same([told_apart(A - B, counts, others), [counts, others]], [None, before])
        found = told_apart(A & B, counts, others)
        self.same(sorted(found.counts), ["a", "b"])

    def test_the_paper(self):
        self.check_paper(Later, "counts", "one", "other")
        found = told_apart(A, {"a": 1}, {"a": 2})
        found.counts["a"] = None
        self.assertEqual([is_integer(told_apart(A, {"a": 1}, {"a": 2}).counts["a"])], [True])

    def test_two_rows_with_one_lead(self):
        """Rows that have the same values of all kept forms are alike for ever, also with other pieces."""
        dice = random.Random(199)
        many = 0
        while many < 60:
            tree = some_plain(dice, "abc", (2, 3), 8)
            names, question = names_of(tree), made_of(tree)
            kept = [piece.form for piece in room(question).kept]
            counts, others = ({name: dice.randrange(4) for name in names} for _ in range(2))
            lead = [[value_of(form, [row[name] for name in names]) for form in kept] for row in (counts, others)]
            self.same(told_apart(question, counts, others) is None, lead[0] == lead[1])
            many += lead[0] == lead[1]


if __name__ == "__main__":
    unittest.main()
