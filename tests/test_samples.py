"""Promises [4], [5], [12] and [13], as samples.py and doubts.py serve them: what is told without trees."""

import itertools
import random
import unittest

import judging
from anything import Case
from rowcounts.cells import inner_cell, whole_cell
from rowcounts.doubts import Outlook, can_differ, can_part, can_part_at_great, doubt_at, doubt_of, small_samples, unlike_samples
from rowcounts.hangs import gain, loss
from rowcounts.judge import Parted, Shown, never_more
from rowcounts.judgements import judgement_of
from rowcounts.least import least_parted
from rowcounts.limits import limits_of
from rowcounts.look_judge import shows_parted, shows_shown
from rowcounts.samples import Samples, numbers_on, truths_on
from rowcounts.words import read_question
from trees import TRUE, leaves_of, made_of, number_of, some_question, some_test, truth_of

NAMES = ("a", "b", "c", "e")


def some_counts(dice, names):
    most = dice.choice([1, 2, 5, 300])
    return {name: dice.randrange(most + 1) for name in names}


def some_case(dice):
    """A drawn judgement within all sizes."""
    while True:
        depth = dice.choice([0, 0, 1])
        rules = [(dice.choice(list(judging.RULES)), some_question(dice, depth), some_question(dice, 0))
                 for _ in range(dice.choice([0, 0, 1, 2]))]
        case = judging.Case(some_question(dice, dice.choice([1, 2, 3])), some_question(dice, dice.choice([0, 1, 2])), rules)
        if case.fits():
            return case


class SamplesTest(Case):

    def test_numbers_and_truths(self):
        dice = random.Random(311)
        for _ in range(400):
            tree, test = some_question(dice, 3, "abc"), some_test(dice, 2, "abc")
            rows = [some_counts(dice, "abc") for _ in range(5)]
            values = {column: dice.choice([None, -3, -2, -1, 0, 1, 2]) for column in "xy"}
            samples = Samples(("a", "b", "c"), [[row[name] for row in rows] for name in "abc"], 5)
            self.same(list(numbers_on(made_of(tree), values, samples)), [number_of(tree, values, row) for row in rows])
            self.same([truth is True for truth in truths_on(made_of(test), values, samples)],
                      [truth_of(test, values, row) == TRUE for row in rows])
            self.same([samples.counts_at(at) for at in range(5)], rows)

    def test_small_samples(self):
        for many in range(1, 5):
            names = NAMES[:many]
            samples = small_samples(names)
            found = [samples.counts_at(at) for at in range(len(samples.noughts))]
            own = [row for total in (1, 2) for row in itertools.product(range(2), repeat=many) if sum(row) == total]
            self.same(found, [dict(zip(names, row)) for row in own])
        self.same([small_samples(()).noughts, small_samples(()).counted], [[], ()])

    def test_unlike_samples(self):
        for many in range(1, 5):
            samples = unlike_samples(NAMES[:many])
            self.same({len(column) for column in samples.counted}, {len(samples.noughts)})
            self.assertTrue(all(count >= 0 for column in samples.counted for count in column))


class PartsTest(Case):

    def test_parts_tell_each_row_of_counts(self):
        """Wherever counts stand, there is a part with these, in which the form tells their number."""
        dice = random.Random(313)
        for _ in range(150):
            tree = some_question(dice, 3, "abc")
            values = {"x": dice.choice([None, -2, 0, 1]), "y": dice.choice([None, -2, 0, 1])}
            found = Outlook(("a", "b", "c"), values).over(made_of(tree), whole_cell(3))
            for _ in range(25):
                self.check_parts(tree, values, found, some_counts(dice, "abc"))

    def check_parts(self, tree, values, found, counts):
        row = [counts[name] for name in "abc"]
        told = [sum(factor * count for factor, count in zip(form, row)) for form, part in found if self.holds(part, row)]
        self.assertGreater(len(told), 0)
        self.same(set(told), {number_of(tree, values, counts)})

    def holds(self, part, row):
        """Whether counts stand in a part."""
        values = [(sum(factor * count for factor, count in zip(form, row)), is_strict) for form, is_strict in part.sides]
        return all(value > 0 if is_strict else value >= 0 for value, is_strict in values)

    def test_parts_have_their_points(self):
        dice = random.Random(317)
        for cell in (whole_cell(3), inner_cell(3)):
            for _ in range(100):
                tree = some_question(dice, 3, "abc", tests=False)
                for _, part in Outlook(("a", "b", "c"), {}).over(made_of(tree), cell):
                    self.assertTrue(part.points)
                    for point in part.points:
                        self.assertTrue(self.holds(part, point))


class DoubtsTest(Case):

    def test_against_trees(self):
        """What is told without trees is what papers show, which are looked at, too."""
        dice = random.Random(331)
        told = {}
        for _ in range(700):
            case = some_case(dice)
            one, other, *rules = case.made()
            judgement = judgement_of(one, other, rules)
            first, last = never_more(one, other, *rules), never_more(other, one, *rules)
            for paper, sides in ((first, (one, other)), (last, (other, one))):
                looked = shows_shown if isinstance(paper, Shown) else shows_parted
                self.same(looked(*sides, paper, *rules), True)
            self.same(can_part(judgement), isinstance(first, Parted))
            self.same(can_differ(judgement), isinstance(first, Parted) or isinstance(last, Parted))
            self.check_doubt(case, judgement)
            told[bool(first), bool(last)] = True
        self.same(len(told), 4)

    def check_doubt(self, case, judgement):
        for is_either in (False, True):
            doubt = doubt_of(judgement, is_either)
            if doubt is not None:
                values, counts = doubt
                self.same(case.parts(values, counts) or is_either and case.turned().parts(values, counts), True)

    def test_far_doubts(self):
        """Those that have no small counts, nor one of the unlike ones, are found all the same."""
        for text, other in (("( ( a - ( 9 * ( 9 * b ) ) ) where has b )", "empty"),
                            ("( a where has b )", "( 9 * ( 9 * b ) )"),
                            ("( ( a - ( 9 * ( 2 * b ) ) ) where has b )", "( 9 * ( a - ( 9 * ( 3 * b ) ) ) )"),
                            ("( ( a where has b ) unless has ( ( a - ( 7 * b ) ) | ( ( 7 * b ) - a ) ) )", "empty")):
            judgement = judgement_of(read_question(text), read_question(other), ())
            self.same([can_part_at_great(judgement), can_part(judgement), can_differ(judgement)], [True] * 3)
            self.same(isinstance(never_more(read_question(text), read_question(other)), Parted), True)
            for samples in (small_samples(judgement.tables), unlike_samples(judgement.tables)):
                self.same(doubt_at(judgement, samples, False), None)

    def test_rows_of_which_a_part_of_a_test_is_unknown(self):
        """They stand behind those of which it is false; where the test has a Has, they are not always like these."""
        one, other = "( a where not ( x < 5 and has b ) )", "( a unless ( x < 5 and has b ) )"
        for sides, parts in (((one, other), False), ((other, one), True)):
            questions = [read_question(text) for text in sides]
            judgement = judgement_of(*questions, ())
            self.same([can_part(judgement), can_part_at_great(judgement), can_differ(judgement)], [parts, parts, True])
            self.same(isinstance(never_more(*questions), Parted), parts)
            found = least_parted(*questions)
            self.same(found == (Parted((("x", None),), {"a": 1, "b": 1}) if parts else None), True)

    def test_equal_questions(self):
        for text in ("a", "empty", "( ( a - b ) where ( x < 1 or has c ) )"):
            judgement = judgement_of(read_question(text), read_question(text), ())
            self.same([can_part(judgement), can_differ(judgement), can_part_at_great(judgement)], [False] * 3)

    def test_demands(self):
        """Demands bar what parts, in the order in which they stand or not."""
        dice = random.Random(337)
        for _ in range(150):
            case = some_case(dice)
            one, other, *rules = case.made()
            found = can_part(judgement_of(one, other, rules))
            self.same(can_part(judgement_of(one, other, rules[::-1])), found)
            if not can_part(judgement_of(one, other, ())):
                self.same(found, False)


class SlopesTest(Case):

    def test_far_steps(self):
        """Steps that no sample tells, but some part of all counts: of slopes, and of falls at a Has."""
        slope, fall = "( ( a - ( 9 * ( 9 * b ) ) ) where has b )", "( a where has ( a - ( 9 * ( 9 * b ) ) ) )"
        self.same([gain(read_question(slope), "a"), loss(read_question(slope), "a")], [1, 0])
        self.same([gain(read_question(fall), "a"), loss(read_question(fall), "a")], [None, 0])
        turned = "( a unless has ( a - ( 9 * ( 9 * b ) ) ) )"
        self.same([gain(read_question(turned), "a"), loss(read_question(turned), "a")], [1, None])

    def test_steps_up_to_the_most(self):
        told = {
            "( ( 9 * a ) where has b )": (9, 0), "( ( 9 * a ) where not has ( a - a ) )": (9, 0),
            "( ( a + ( 9 * a ) ) where has b )": (None, 0), "( ( b - a ) where has b )": (0, 1),
            "( ( b - ( 9 * a ) ) unless has c )": (0, 9), "( ( b - ( 9 * a ) ) where not has ( a - a ) )": (0, 9),
            "( ( b - ( 2 * ( 5 * a ) ) ) where has b )": (0, None), "( ( 2 * a ) where has a )": (2, 0),
            "( b unless has a )": (0, None), "( b where has a )": (None, 0), "( ( b - a ) + ( a where has c ) )": (1, 1),
        }
        for text, (more, less) in told.items():
            question = read_question(text)
            self.same([gain(question, "a"), loss(question, "a")], [more, less])

    def test_limits(self):
        """No step at drawn counts, great, small or nearly equal, goes beyond the limits that the parts of a question tell."""
        dice = random.Random(349)
        found = {}
        for _ in range(600):
            tree = some_question(dice, 3, "ab")
            name = dice.choice("ab")
            limits = limits_of(made_of(tree), name)
            self.same([type(limit) is int and 0 <= limit <= 10 for limit in limits], [True, True])
            found[limits] = True
            for _ in range(12):
                values = {"x": dice.choice([None, -2, 0, 1]), "y": dice.choice([None, -2, 0, 1])}
                counts = dice.choice([some_counts(dice, "ab"), {"a": 50, "b": 50 + dice.choice([-1, 0, 1])}])
                more = dice.choice([1, 1, 2, 50])
                step = number_of(tree, values, {**counts, name: counts[name] + more}) - number_of(tree, values, counts)
                for limit, change in zip(limits, (step, -step)):
                    self.assertTrue(limit == 10 or change <= limit * more, f"{tree} {name} {limits}")
        self.assertGreater(len(found), 20)

    def test_told_limits(self):
        told = {
            "a": (1, 0), "b": (0, 0), "empty": (0, 0), "( a + a )": (2, 0), "( a - b )": (1, 0), "( b - a )": (0, 1),
            "( 3 * ( b - a ) )": (0, 3), "( 9 * ( 2 * a ) )": (10, 0), "( a & ( b - a ) )": (1, 1),
            "( a | ( 2 * a ) )": (2, 0), "( ( 2 * a ) & a )": (2, 0), "( ( a - b ) + ( b - a ) )": (1, 1),
            "( ( b - a ) - ( 2 * a ) )": (0, 3), "( a where x < 5 )": (1, 0), "( a where has b )": (1, 0),
            "( b where has a )": (10, 0), "( b unless has a )": (0, 10), "( b where has ( b - a ) )": (0, 10),
            "( b unless has ( b - a ) )": (10, 0), "( a where has a )": (1, 0), "( ( a & b ) where has a )": (1, 0),
            "( ( a | b ) where has a )": (10, 0), "( ( a + b ) where has a )": (10, 0),
            "( ( ( 2 * a ) - b ) where has a )": (2, 0), "( b where not has a )": (10, 10), "( b where not has b )": (0, 0),
            "( ( a where x < 5 ) where has a )": (1, 0), "( ( a | ( 2 * a ) ) where has a )": (2, 0),
            "( ( a + a ) where has a )": (2, 0), "( empty where has a )": (10, 0),
        }
        for text, limits in told.items():
            self.same(limits_of(read_question(text), "a"), limits)

    def test_against_steps(self):
        """Gain and loss are enough for all steps at drawn counts, also great ones."""
        dice = random.Random(347)
        for _ in range(400):
            tree = some_question(dice, 2, "ab")
            names = sorted(leaves_of(tree)[0])
            if not names or made_of(tree).size > 5 or len(made_of(tree).conditions) > 3:
                continue
            name = dice.choice(names)
            most, least = gain(made_of(tree), name), loss(made_of(tree), name)
            for _ in range(20):
                values = {"x": dice.choice([None, -2, 0, 1]), "y": dice.choice([None, -2, 0, 1])}
                counts, more = some_counts(dice, "ab"), dice.choice([1, 2, 50])
                ahead = number_of(tree, values, counts)
                behind = number_of(tree, values, {**counts, name: counts[name] + more})
                self.assertTrue(most is None or behind - ahead <= most * more)
                self.assertTrue(least is None or ahead - behind <= least * more)


if __name__ == "__main__":
    unittest.main()
