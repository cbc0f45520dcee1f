"""Promises [2], [5] and streams.py."""

import inspect
import random
import unittest

from anything import Case, any_values, is_integer
from rowcounts.bags import Bag
from rowcounts.bases import Base
from rowcounts.errors import BadBag, BadBase, BadQuestion, BadRow, NoColumn, NoTable, TooMany
from rowcounts.questions import Empty, Question, Table
from rowcounts.streams import joined, stream
from rowcounts.truths import Below, Missing
from store_model import in_order, is_row, order_of
from trees import made_of, number_of, some_question

A, B, C = Table("a"), Table("b"), Table("c")

MOST = 10 ** 30

BASE = Base(("x",), a=Bag(((1,), 2)), b=Bag(((1,), 3), ((4,), 1), ((None,), 7)))


def own_stream(tree, base, behind=None):
    """The pairs of a stream, reckoned row by row."""
    rows = in_order({row for name in base for row, _ in base[name]})
    found = [(row, number_of(tree, base.values_of(row), base.numbers(row))) for row in rows]
    return [(row, times) for row, times in found if times and (behind is None or order_of(row) > order_of(behind))]


def some_base(dice, names="abc"):
    width = dice.choice([1, 2])
    bags = {name: Bag(*[(tuple(dice.choice([None, -1, 0, 1, 7]) for _ in range(width)), dice.choice([1, 2, 3, MOST // 9]))
                        for _ in range(dice.randrange(6))]) for name in names}
    return Base.of(("x", "y")[:width], bags)


class StreamTest(Case):

    def test_told_ones(self):
        self.same([list(stream(B - A, BASE)), list(stream(A + B, BASE, (1,))), list(stream(A, BASE, (0,)))],
                  [[((1,), 1), ((4,), 1), ((None,), 7)], [((4,), 1), ((None,), 7)], [((1,), 2)]])
        self.same([list(stream(question=A, base=BASE, behind=None)), list(stream(Empty(), BASE)),
                   list(stream(B, behind=(None,), base=BASE)), list(stream(B, BASE, (4,)))],
                  [[((1,), 2)], [], [], [((None,), 7)]])
        self.same([list(stream(B // Below("x", 4), BASE)), list(stream(B, Base(("x",), b=Bag())))],
                  [[((4,), 1), ((None,), 7)], []])

    def test_against_the_answers(self):
        dice = random.Random(251)
        for _ in range(300):
            tree, base = some_question(dice, 3), some_base(dice)
            if set(made_of(tree).columns) - set(base.columns):
                continue
            found = list(stream(made_of(tree), base))
            self.same(found, own_stream(tree, base))
            try:
                self.same(found, list(made_of(tree)(base)))
            except TooMany as error:
                self.same(error.what, "times")
            width = len(base.columns)
            behinds = [tuple(dice.choice([None, -2, -1, 0, 1, 7, 10 ** 60]) for _ in range(width)) for _ in range(3)]
            for behind in [*behinds, *base.rows()]:
                self.same(list(stream(made_of(tree), base, behind)), own_stream(tree, base, behind))

    def test_too_many_for_a_bag(self):
        base = Base(("x",), a=Bag.of([(n,) for n in range(60)]), b=Bag.of([(n + 60,) for n in range(60)]),
                    c=Bag(((-1,), MOST)))
        self.refused(TooMany("rows", 60), A + B, base)
        self.same(list(stream(A + B, base)), [((n,), 1) for n in range(120)])
        self.same(list(stream((A + B + C) * 9 * 9, base, (118,))), [((119,), 81)])
        self.refused(TooMany("times", MOST), C * 9, base)
        self.same(next(stream(C * 9 * 9 * 9, base)), ((-1,), 729 * MOST))
        self.same(len(list(stream(A + B + C, base))), 121)

    def test_by_turns(self):
        first, second = stream(B, BASE), stream(B, BASE)
        self.assertTrue(inspect.isgenerator(first))
        told = [next(first), next(second), next(first), next(first), next(second)]
        self.same(told, [((1,), 3), ((1,), 3), ((4,), 1), ((None,), 7), ((4,), 1)])
        self.same([list(first), list(second)], [[], [((None,), 7)]])

    def refused_stream(self, error, *told, **named):
        self.refused(error, lambda: next(stream(*told, **named)))

    def test_errors_in_order(self):
        for value in any_values():
            if not isinstance(value, Question):
                self.refused_stream(BadQuestion("question"), value, BASE)
                self.refused_stream(BadQuestion("question"), value, value, value)
            if not isinstance(value, Base):
                self.refused_stream(BadBase("base"), A, value)
                self.refused_stream(BadBase("base"), behind=value, base=value, question=C)
            if value is not None and not is_row(value, 1):
                self.refused_stream(BadRow("behind"), A, BASE, value)
                self.refused_stream(BadRow("behind"), C, BASE, behind=value)
        self.refused_stream(NoTable("c"), A % Missing("y") + C + Table("d"), BASE)
        self.refused_stream(NoColumn("y"), A % Missing("y"), BASE, (1,))
        self.refused_stream(BadRow("behind"), A % Missing("y"), BASE, (1, 1))

    def test_what_is_passed_stays(self):
        base = some_base(random.Random(257))
        before = {name: list(base[name]) for name in base}
        list(stream(A + B, base))
        self.same({name: list(base[name]) for name in base}, before)


class JoinedTest(Case):

    def test_told_ones(self):
        self.same(list(joined(stream(A, BASE), stream(B, BASE), [((2,), 7)])),
                  [((1,), 5), ((2,), 7), ((4,), 1), ((None,), 7)])
        self.same([list(joined()), list(joined([])), list(joined((), [], stream(Empty(), BASE)))], [[], [], []])
        self.same(list(joined(BASE["a"][:], joined(BASE["a"][:], BASE["b"][:]))), [((1,), 7), ((4,), 1), ((None,), 7)])
        self.same(list(joined([((1,), MOST)], (((1,), MOST),), [((1,), 1)])), [((1,), 2 * MOST + 1)])

    def test_drawn_parts(self):
        dice = random.Random(263)
        for _ in range(200):
            parts, numbers = [], {}
            for _ in range(dice.randrange(5)):
                rows = {tuple(dice.choice([None, -1, 0, 1, 5]) for _ in range(2)): dice.choice([1, 2, MOST])
                        for _ in range(dice.randrange(7))}
                part = [(row, rows[row]) for row in in_order(rows)]
                for row, times in part:
                    numbers[row] = numbers.get(row, 0) + times
                parts.append(dice.choice([list, tuple, iter])(part))
            self.same(list(joined(*parts)), [(row, numbers[row]) for row in in_order(numbers)])

    def test_more_rows_than_a_bag(self):
        parts = [[((n + 50 * at,), 1) for n in range(100)] for at in range(4)]
        found = list(joined(*parts))
        self.same([len(found), found[60], found[0]], [250, ((60,), 2), ((0,), 1)])

    def test_parts_that_are_not_ascending(self):
        up, down, twice = [((1,), 1), ((2,), 1)], [((2,), 1), ((1,), 1)], [((1,), 1), ((1,), 1)]
        nulls = [((None,), 1), ((1,), 1)]
        for wrong in (down, twice, nulls, tuple(down)):
            self.refused(BadBag(0), lambda: next(joined(wrong)))
            self.refused(BadBag(1), lambda: next(joined(up, wrong, down)))
            self.refused(BadBag(2), lambda: next(joined(up, stream(B, BASE), wrong)))
            self.refused(BadBag(0), lambda: list(joined(wrong, stream(C, BASE))))
        self.refused(BadBag(1), lambda: next(joined(up, [((1, None), 1), ((1, 5), 1)])))

    def test_what_is_done_to_a_part_behind_the_first_item_has_no_effect(self):
        for change in (list.clear, list.reverse, list.pop, lambda part: part.append(((9,), 5)),
                       lambda part: part.insert(0, ((0,), 5))):
            one, other = [((1,), 1), ((3,), 1)], [((1,), 2), ((2,), 4)]
            pairs, more = joined(one, other), joined(other, tuple(other), one, [((0,), 1)])
            self.same([next(pairs), next(more)], [((1,), 3), ((0,), 1)])
            change(one)
            change(other)
            self.same([list(pairs), list(more)], [[((2,), 4), ((3,), 1)], [((1,), 5), ((2,), 8), ((3,), 1)]])

    def test_a_stream_that_is_asked_on_behind_the_first_item_has_no_effect(self):
        part = stream(B, BASE)
        pairs = joined(part, [((2,), 1)])
        self.same([next(pairs), list(part)], [((1,), 3), []])
        self.same(list(pairs), [((2,), 1), ((4,), 1), ((None,), 7)])

    def test_a_stream_that_was_begun_gives_its_other_pairs(self):
        part = stream(B, BASE)
        self.same([next(part), list(joined(part, [((2,), 1)]))], [((1,), 3), [((2,), 1), ((4,), 1), ((None,), 7)]])

    def test_a_part_that_ascends_no_longer_behind_the_first_item(self):
        up, more = [((1,), 1)], [((2,), 1), ((3,), 1)]
        pairs = joined(up, more)
        self.same(next(pairs), ((1,), 1))
        up.append(((0,), 1))
        more.reverse()
        self.same(list(pairs), [((2,), 1), ((3,), 1)])

    def test_the_error_comes_ahead_of_the_first_item_also_for_the_last_rows(self):
        late = [((n,), 1) for n in range(50)] + [((48,), 1)]
        self.refused(BadBag(1), lambda: next(joined([((0,), 1)], late)))
        self.refused(BadBag(2), lambda: next(joined([((0,), 1)], (), iter(late), late)))

    def test_a_generator(self):
        pairs = joined([((1,), 1)], [((2,), 3)])
        self.assertTrue(inspect.isgenerator(pairs))
        self.assertTrue(inspect.isgenerator(joined()))
        self.same([next(pairs), list(pairs), list(pairs)], [((1,), 1), [((2,), 3)], []])

    def test_by_turns(self):
        part = [((1,), 1), ((2,), 3)]
        first, second = joined(part), joined(part, part)
        self.same([next(first), next(second), next(second), next(first)],
                  [((1,), 1), ((1,), 2), ((2,), 6), ((2,), 3)])
        self.same([list(first), list(second)], [[], []])

    def test_errors_of_streams_in_order(self):
        down = [((2,), 1), ((1,), 1)]
        self.refused(NoTable("c"), lambda: next(joined(stream(C, BASE), down)))
        self.refused(BadQuestion("question"), lambda: next(joined([], stream(5, BASE))))

    def test_arguments_stay(self):
        one, other = [((1,), 1), ((3,), 1)], [((1,), 2)]
        found = list(joined(one, other))
        found.clear()
        self.same([one, other], [[((1,), 1), ((3,), 1)], [((1,), 2)]])

    def test_numbers_are_integers(self):
        for row, times in joined(stream(B, BASE)):
            self.same([is_row(row, 1), is_integer(times)], [True, True])


if __name__ == "__main__":
    unittest.main()
