"""Promises [2], [10] and weights.py."""

import itertools
import random
import unittest

from anything import Case, any_values, is_integer
from rowcounts.errors import BadBounds, BadNumber
from rowcounts.forms import Bound
from rowcounts.weights import Clash, Point, settled, shows_clash, shows_point

MORE, LESS = Bound((1, -1)), Bound((-1, 1), True)


def is_point(bounds, many, value):
    """The own reckoning of shows_point."""
    if type(value) is not Point or type(value.counts) is not tuple or len(value.counts) != many:
        return False
    if not all(is_integer(count) for count in value.counts):
        return False
    totals = [sum(a * b for a, b in zip(bound.form, value.counts)) for bound in bounds]
    return all(total >= 1 if bound.is_strict else total >= 0 for bound, total in zip(bounds, totals))


def is_clash(bounds, many, value):
    """The own reckoning of shows_clash."""
    if type(value) is not Clash or type(value.weights) is not tuple or len(value.weights) != len(bounds):
        return False
    if not all(is_integer(weight) and weight >= 0 for weight in value.weights):
        return False
    pairs = list(zip(bounds, value.weights))
    totals = [sum(bound.form[at] * weight for bound, weight in pairs) for at in range(many)]
    return not any(totals) and any(weight for bound, weight in pairs if bound.is_strict)


def some_bounds(dice, many, most=12, scale=2, strict=0.3):
    return [Bound(tuple(dice.randint(-scale, scale) for _ in range(many)), dice.random() < strict)
            for _ in range(dice.randrange(most + 1))]


def bounds_through(dice, many, length, scale, strict=1.0):
    """Bounds that all hold at a point that is drawn."""
    point = [dice.randint(-9, 9) for _ in range(many)]
    found = []
    while len(found) < length:
        form = [dice.randint(-scale, scale) for _ in range(many)]
        total = sum(a * b for a, b in zip(form, point))
        if total:
            found.append(Bound(tuple(a if total > 0 else -a for a in form), dice.random() < strict))
    return found


class SettledCase(Case):

    def check(self, bounds, many):
        """What is told is right, the same one each time, and nothing else is."""
        found = settled(bounds, many)
        if type(found) is Point:
            self.assertTrue(is_point(bounds, many, found), (many, [str(bound) for bound in bounds]))
        else:
            self.assertTrue(is_clash(bounds, many, found), (many, [str(bound) for bound in bounds]))
        self.assertEqual(settled(tuple(bounds), many), found)
        self.assertEqual(settled(many=many, bounds=[Bound(one.form, one.is_strict) for one in bounds]), found)
        self.same(shows_point(bounds, many, found), bool(found))
        self.same(shows_clash(bounds, many, found), not found)
        return bool(found)


class SettledTest(SettledCase):

    def test_random_bounds(self):
        dice = random.Random(41)
        told = [self.check(some_bounds(dice, many, scale=dice.choice([1, 2, 9])), many)
                for many in range(9) for _ in range(120)]
        self.assertGreater(min(told.count(True), told.count(False)), 250)

    def test_against_all_small_points(self):
        """Over two numbers with factors from -2 to 2 there is a point with numbers from -4 to 4, if there is one."""
        dice = random.Random(43)
        points = list(itertools.product(range(-4, 5), repeat=2))
        for _ in range(300):
            bounds = some_bounds(dice, 2, 6)
            expected = any(is_point(bounds, 2, Point(point)) for point in points)
            self.same(self.check(bounds, 2), expected)

    def test_many_great_bounds(self):
        dice = random.Random(47)
        great = 10 ** 60 - 1
        for many in (1, 3, 8):
            for bounds in (bounds_through(dice, many, 80, great), bounds_through(dice, many, 80, 1, 0.5),
                           bounds_through(dice, many, 79, great, 0.2) + [Bound((0,) * many, True)]):
                self.assertEqual(len(bounds), 80)
                self.same(self.check(bounds, many), not bounds[-1].is_false)
            wide = [Bound(tuple(dice.randint(-great, great) for _ in range(many)), True) for _ in range(80)]
            self.same(self.check(wide, many), False)

    def test_a_wedge_that_just_holds(self):
        """Great factors between which only a narrow way is left, and then none."""
        great = 10 ** 59
        more, less = Bound((great, -(great - 1)), True), Bound((-(great + 1), great), True)
        self.same(self.check([more], 2), True)
        self.same(self.check([more, less], 2), True)
        self.same(self.check([more, less, Bound((1, 0))], 2), True)
        self.same(self.check([more, less, Bound((-1, 0))], 2), False)
        self.same(self.check([more, Bound((-great, great - 1), True)], 2), False)
        self.same(self.check([Bound((great, -(great - 1))), Bound((-great, great - 1))], 2), True)

    def test_told_ones(self):
        told = {
            True: [([], 0), ([], 8), ([Bound(())], 0), ([Bound((0, 0))], 2), ([MORE, ~LESS], 2), ([LESS], 2),
                   ([Bound((-1,), True)], 1), ([Bound((1, 0), True), Bound((0, -1), True)], 2),
                   ([MORE, Bound((-1, 1))], 2), ([MORE] * 80, 2)],
            False: [([MORE, LESS], 2), ([Bound((), True)], 0), ([Bound((0, 0), True)], 2), ([LESS, ~LESS], 2),
                    ([Bound((1,)), Bound((-1,), True)], 1), ([LESS] * 40 + [MORE] * 40, 2),
                    ([Bound((1, 1, 0), True), Bound((-1, 0, 1)), Bound((0, -1, -1))], 3)],
        }
        for expected, cases in told.items():
            for bounds, many in cases:
                self.same(self.check(bounds, many), expected)

    def test_numbers_may_be_below_nought(self):
        self.assertLess(settled([Bound((-1,), True)], 1).counts[0], 0)
        self.same(settled([Bound((-1,), True), Bound((1,))], 1).weights, (1, 1))
        self.assertTrue(shows_point([MORE, ~LESS], 2, Point((-5, -7))))

    def test_papers_belong_to_the_caller(self):
        bounds = [MORE, LESS]
        settled(bounds, 2)
        self.assertEqual(bounds, [MORE, LESS])


class PapersTest(Case):

    def test_papers(self):
        self.check_paper(Point, "counts")
        self.check_paper(Clash, "weights")

    def test_truth(self):
        for value in any_values():
            self.same([bool(Point(value)), bool(Clash(value))], [True, False])

    def test_classes(self):
        self.assertFalse(Point((1,)) == Clash((1,)))
        self.assertTrue(Point((1,)) != Clash((1,)))


class LooksTest(SettledCase):

    def test_papers_with_one_number_otherwise(self):
        dice = random.Random(53)
        right = wrong = 0
        for many in range(1, 9):
            for _ in range(40):
                bounds = some_bounds(dice, many)
                found = settled(bounds, many)
                told = found.counts if found else found.weights
                for at in range(len(told)):
                    for step in (-1, 1, 5, -told[at], True):
                        bent = told[:at] + (step if step is True else told[at] + step,) + told[at + 1:]
                        point, clash = is_point(bounds, many, Point(bent)), is_clash(bounds, many, Clash(bent))
                        self.same(shows_point(bounds, many, Point(bent)), point)
                        self.same(shows_clash(bounds, many, Clash(bent)), clash)
                        right += point + clash
                        wrong += not (point or clash)
        self.assertGreater(min(right, wrong), 400)

    def test_kinds_and_lengths(self):
        bounds = [MORE, LESS, Bound((1, 0))]
        for value in [(3, 3), (3, 3, 0, 0), [3, 3, 0], (3, 3, False), (3, 3, None), (True, 1, 0), (0, 0, 0), (0, 0, 1),
                      (-1, -1, 0), (3, 3, -1), (4, 3, 0), None, 3, "330", {0: 3, 1: 3, 2: 0}]:
            self.same(shows_clash(bounds, 2, Clash(value)), False)
        for value in [(3, 3, 0), (1, 1, 0), (10 ** 70, 10 ** 70, 0)]:
            self.same(shows_clash(bounds, 2, Clash(value)), True)
            self.same(shows_clash(value=Clash(value), many=2, bounds=tuple(bounds)), True)
        for value in [(1,), (1, 1, 1), [1, 1], (1, True), (True, 1), (1, None), None, 5, "11", (0, 1), {1: 1}]:
            self.same(shows_point([MORE], 2, Point(value)), False)
        for value in [(1, 1), (0, 0), (-5, -7), (10 ** 70, 1)]:
            self.same(shows_point([MORE], 2, Point(value)), True)
            self.same(shows_point(value=Point(value), many=2, bounds=(MORE,)), True)

    def test_strict_ones_with_weight_nought(self):
        bounds = [MORE, Bound((-1, 1)), LESS]
        self.same([shows_clash(bounds, 2, Clash(told)) for told in [(1, 1, 0), (1, 0, 1), (2, 1, 1), (0, 0, 0)]],
                  [False, True, True, False])

    def test_without_bounds(self):
        self.same([shows_clash([], 0, Clash(())), shows_clash([], 3, Clash(())), shows_point([], 0, Point(()))],
                  [False, False, True])
        self.same([shows_clash([Bound((), True)], 0, Clash((2,))), shows_point([Bound((), True)], 0, Point(()))],
                  [True, False])

    def test_any_values(self):
        for value in any_values():
            for bounds, many in (([MORE], 2), ([], 0), ([MORE, LESS], 2), ([Bound((1,))], 1)):
                self.same(shows_point(bounds, many, value), is_point(bounds, many, value))
                self.same(shows_clash(bounds, many, value), is_clash(bounds, many, value))


class WrongTest(Case):

    def refused_by_all(self, error, bounds, many):
        self.refused(error, settled, bounds, many)
        for value in (None, Point((1, 1)), Clash((1,))):
            self.refused(error, shows_point, bounds, many, value)
            self.refused(error, shows_clash, bounds=bounds, many=many, value=value)

    def test_any_many(self):
        for value in any_values():
            if not (is_integer(value) and 0 <= value <= 8):
                self.refused_by_all(BadNumber(value), [MORE], value)
                self.refused_by_all(BadNumber(value), value, value)

    def test_any_bounds(self):
        for value in any_values():
            if type(value) not in (list, tuple):
                self.refused_by_all(BadBounds(None), value, 2)
            elif value:
                self.refused_by_all(BadBounds(0), value, 2)

    def test_eighty_bounds(self):
        self.assertTrue(settled([MORE] * 80, 2))
        self.refused_by_all(BadBounds(None), [MORE] * 81, 2)
        self.refused_by_all(BadBounds(None), (None,) * 81, 2)

    def test_any_bound(self):
        for value in [*any_values(), Bound((1,)), Bound((1, 2, 3))]:
            if not (type(value) is Bound and len(value) == 2):
                self.refused_by_all(BadBounds(0), [value], 2)
                self.refused_by_all(BadBounds(2), (MORE, LESS, value, value), 2)


if __name__ == "__main__":
    unittest.main()
