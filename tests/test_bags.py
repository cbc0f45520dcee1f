"""Promises [2], [3], [5] and bags.py."""

import random
import unittest

from anything import Case, any_values, is_integer
from rowcounts.bags import Bag
from rowcounts.errors import BadBag, BadNumber, BadText, TooMany

MOST = 10 ** 30


def is_row(value):
    return (type(value) is tuple and 1 <= len(value) <= 3
            and all(item is None or is_integer(item) for item in value))


def some_bags(seed, many, width=2):
    """Random bags whose rows often meet, NULL among the values."""
    dice = random.Random(seed)
    values = [None, -3, 0, 1, 12]
    for _ in range(many):
        rows = [tuple(dice.choice(values) for _ in range(width)) for _ in range(dice.randrange(8))]
        yield Bag(*[(row, dice.choice([1, 2, 3, 7])) for row in rows])


def numbers_of(bag):
    return dict(bag)


def bag_from(numbers):
    return Bag(*[(row, times) for row, times in numbers.items() if times])


class MakingTest(Case):

    def test_pairs_of_one_row_are_added_up(self):
        bag = Bag(((2,), 3), ((1,), 1), ((2,), 4))
        self.same(tuple(bag), (((1,), 1), ((2,), 7)))

    def test_rows_stand_ascending_with_null_behind_integers(self):
        rows = [(None, None), (None, -5), (3, None), (3, 10), (3, 9), (-10, 0), (-9, 0), (10 ** 59, 0), (-10 ** 59, 7)]
        expected = [(-10 ** 59, 7), (-10, 0), (-9, 0), (3, 9), (3, 10), (3, None), (10 ** 59, 0), (None, -5),
                    (None, None)]
        for seed in range(20):
            random.Random(seed).shuffle(rows)
            self.same([row for row, _ in Bag.of(rows)], expected)

    def test_three_values(self):
        bag = Bag.of([(1, None, 2), (1, 5, None), (1, None, 1)])
        self.same([row for row, _ in bag], [(1, 5, None), (1, None, 1), (1, None, 2)])

    def test_no_pairs(self):
        bag = Bag()
        self.same([list(bag), len(bag), bag.width, bag.whole, str(bag)], [[], 0, None, 0, "none"])
        self.assertEqual(bag, Bag.of([]))
        self.assertEqual(bag, Bag.of(()))

    def test_any_value_that_is_no_pair(self):
        for value in any_values():
            is_pair = (type(value) is tuple and len(value) == 2 and is_row(value[0]) and is_integer(value[1])
                       and 1 <= value[1] <= MOST)
            if not is_pair:
                self.refused(BadBag(0), Bag, value)
                self.refused(BadBag(1), Bag, ((1,), 1), value, 7)
            self.refused(BadBag(2), Bag, ((1,), 1), ((2,), 1), [(3,), 1])

    def test_any_value_as_row_and_as_times(self):
        for value in any_values():
            if is_row(value):
                self.same(list(Bag((value, 2))), [(value, 2)])
            else:
                self.refused(BadBag(0), Bag, (value, 2))
            if is_integer(value) and 1 <= value <= MOST:
                self.same(list(Bag(((4,), value))), [((4,), value)])
            else:
                self.refused(BadBag(1), Bag, ((4,), 1), ((4,), value))

    def test_any_value_in_a_row(self):
        for value in any_values():
            if value is None or is_integer(value):
                self.assertEqual(Bag(((value, 1), 1)).often((value, 1)), 1)
            else:
                self.refused(BadBag(0), Bag, ((value, 1), 1))

    def test_pairs_and_rows_of_other_lengths_and_kinds(self):
        for pair in [((1,),), ((1,), 1, 1), [(1,), 1], ([1], 1), ((), 1), ((1, 2, 3, 4), 1), ((1,), True), ((1,), 0),
                     ((1,), -1), ((1,), None), ((True,), 1), ("a", 1), (1, 1)]:
            self.refused(BadBag(0), Bag, pair)

    def test_widths(self):
        self.refused(BadBag(1), Bag, ((1,), 1), ((1, 2), 1))
        self.refused(BadBag(2), Bag, ((1, 2), 1), ((3, 2), 1), ((1,), 1), None)
        self.refused(BadBag(1), Bag, ((1, 2), 1), None, ((1,), 1))

    def test_greatest_number(self):
        self.assertEqual(Bag(((1,), MOST)).whole, MOST)
        self.assertEqual(Bag(((1,), MOST - 1), ((1,), 1)).whole, MOST)
        self.refused(BadBag(0), Bag, ((1,), MOST + 1))
        self.refused(TooMany("times", MOST), Bag, ((1,), MOST), ((1,), 1))

    def test_sixty_rows(self):
        pairs = [((at,), 1) for at in range(60)]
        self.assertEqual(len(Bag(*pairs, *pairs)), 60)
        self.refused(TooMany("rows", 60), Bag, *pairs, ((60,), 1))

    def test_order_of_errors(self):
        pairs = [((at,), MOST) for at in range(61)]
        self.refused(TooMany("rows", 60), Bag, *pairs)
        self.refused(TooMany("times", MOST), Bag, *pairs, ((3,), 1))
        self.refused(BadBag(62), Bag, *pairs, ((3,), 1), ((3, 4), 1))

    def test_of(self):
        self.same(list(Bag.of([(1, None), (0, 2), (1, None)])), [((0, 2), 1), ((1, None), 2)])
        self.assertEqual(Bag.of(((1,), (1,))), Bag(((1,), 2)))
        self.assertEqual(Bag.of(rows=[(1,)]), Bag(((1,), 1)))

    def test_of_any_value(self):
        for value in any_values():
            if type(value) not in (list, tuple):
                self.refused(BadBag("rows"), Bag.of, value)
            if not is_row(value):
                self.refused(BadBag(1), Bag.of, [(1,), value])
                self.refused(BadBag(0), Bag.of, (value, (1,)))
        self.refused(BadBag(1), Bag.of, [(1,), (1, 2), 3])
        self.refused(TooMany("rows", 60), Bag.of, [(at,) for at in range(61)])

    def test_what_is_done_to_an_argument_later(self):
        rows = [(1,), (2,)]
        bag = Bag.of(rows)
        rows.append((3,))
        rows[0] = (9,)
        self.assertEqual(str(bag), "1 of 1, 1 of 2")


class AskingTest(Case):

    def test_width_and_whole(self):
        for width in (1, 2, 3):
            self.assertEqual(Bag(((1, None, 2)[:width], 3), ((2, 2, 2)[:width], 4)).width, width)
        self.assertEqual(Bag(((1,), 3), ((None,), 4)).whole, 7)

    def test_often_and_in(self):
        bag = Bag(((1, None), 2), ((0, 0), 5))
        self.same([bag.often((1, None)), bag.often((0, 0)), bag.often((1, 0))], [2, 5, 0])
        self.same([bag.often(row=(0, 0)), (0, 0) in bag, (1, 0) in bag, (1,) in bag], [5, True, False, False])

    def test_any_value_as_row(self):
        bags = [Bag(((1,), 2), ((0,), 3)), Bag(((None, 1), 4)), Bag(((1, 2, 3), 1)), Bag()]
        for bag in bags:
            for value in any_values():
                expected = dict(bag).get(value, 0) if is_row(value) else 0
                self.same(bag.often(value), expected)
                self.same(value in bag, expected > 0)
        self.same([bags[0].often((True,)), (False,) in bags[0], [1] in bags[0], "1" in bags[0]], [0, False, False, False])

    def test_iteration_and_cuts(self):
        bag = Bag(((5,), 1), ((None,), 2), ((-5,), 3))
        pairs = (((-5,), 3), ((5,), 1), ((None,), 2))
        self.same(tuple(bag), pairs)
        self.same([bag[0], bag[-1], bag[1:], bag[:2], bag[::-1], bag[7:]],
                  [pairs[0], pairs[2], pairs[1:], pairs[:2], pairs[::-1], ()])
        for at in (3, -4, 10 ** 20):
            with self.assertRaises(IndexError):
                bag[at]
        with self.assertRaises(IndexError):
            Bag()[0]


class PuttingTogetherTest(Case):

    def test_against_dicts(self):
        bags = list(some_bags(1, 40))
        for one, other in zip(bags, bags[1:] + [Bag()]):
            a, b = numbers_of(one), numbers_of(other)
            rows = list(a) + list(b)
            whole = {row: (a.get(row, 0), b.get(row, 0)) for row in rows}
            self.assertEqual(one + other, bag_from({row: m + n for row, (m, n) in whole.items()}))
            self.assertEqual(one & other, bag_from({row: min(m, n) for row, (m, n) in whole.items()}))
            self.assertEqual(one | other, bag_from({row: max(m, n) for row, (m, n) in whole.items()}))
            self.assertEqual(one - other, bag_from({row: max(0, m - n) for row, (m, n) in whole.items()}))
            for n in range(10):
                expected = bag_from({row: n * m for row, m in a.items()})
                self.assertEqual([n * one, one * n], [expected, expected])

    def test_results_are_ordered_and_hold_no_noughts(self):
        one, other = Bag(((None,), 1), ((3,), 2)), Bag(((3,), 2), ((1,), 4))
        self.same(list(one + other), [((1,), 4), ((3,), 4), ((None,), 1)])
        self.same(list(one | other), [((1,), 4), ((3,), 2), ((None,), 1)])
        self.same(list(one & other), [((3,), 2)])
        self.same(list(one - other), [((None,), 1)])
        self.same([list(0 * one), (0 * one).width, (one - one).width], [[], None, None])

    def test_bags_without_rows(self):
        bag, wide = Bag(((1,), 2)), Bag(((1, 2), 2))
        for one in (bag, wide):
            self.assertEqual([one + Bag(), Bag() + one, one | Bag(), Bag() | one, one - Bag()], [one] * 5)
            self.assertEqual([one & Bag(), Bag() & one, Bag() - one, Bag() * 9, 9 * Bag()], [Bag()] * 5)

    def test_any_other_value(self):
        bag = Bag(((1,), 2))
        calls = [lambda x: bag + x, lambda x: bag & x, lambda x: bag | x, lambda x: bag - x,
                 lambda x: bag <= x, lambda x: bag < x, lambda x: bag >= x, lambda x: bag > x]
        for value in any_values():
            for call in calls:
                if not isinstance(value, Bag):
                    self.refused(BadBag("other"), call, value)
        for call in calls:
            self.refused(BadBag("width"), call, Bag(((1, 2), 1)))

    def test_the_width_is_looked_at_ahead_of_numbers(self):
        self.refused(BadBag("width"), lambda: Bag(((1,), MOST)) + Bag(((1, 1), MOST)))

    def test_factors(self):
        bag = Bag(((1,), 2))
        for value in any_values():
            if not (is_integer(value) and 0 <= value <= 9):
                self.refused(BadNumber(value), lambda: bag * value)
                if not hasattr(type(value), "__mul__") or isinstance(value, (int, str, list, tuple)):
                    self.refused(BadNumber(value), lambda: value * bag)

    def test_bounds_of_results(self):
        great = Bag(((1,), MOST))
        self.assertEqual([great | great, great & great, 1 * great], [great] * 3)
        self.assertEqual(Bag(((1,), MOST - 1)) + Bag(((1,), 1)), great)
        self.refused(TooMany("times", MOST), lambda: great + Bag(((1,), 1)))
        self.refused(TooMany("times", MOST), lambda: great * 2)
        self.refused(TooMany("times", MOST), lambda: 9 * great)
        low, high = Bag.of([(at,) for at in range(40)]), Bag.of([(at,) for at in range(20, 60)])
        self.assertEqual([len(low + high), len(low | high)], [60, 60])
        more = high + Bag(((60,), 1))
        self.refused(TooMany("rows", 60), lambda: low + more)
        self.refused(TooMany("rows", 60), lambda: low | more)
        self.refused(TooMany("times", MOST), lambda: (low + great - Bag(((1,), 1))) + (more + great - Bag(((1,), 1))))
        self.assertEqual(len(low & more), 20)

    def test_in_place_binds_the_name(self):
        elder, other = Bag(((1,), 2)), Bag(((1,), 1), ((2,), 1))
        bag = elder
        bag += other
        self.assertEqual(str(bag), "3 of 1, 1 of 2")
        bag -= other
        self.assertEqual(bag, elder)
        bag |= other
        self.assertEqual(str(bag), "2 of 1, 1 of 2")
        bag &= other
        self.assertEqual(str(bag), "1 of 1, 1 of 2")
        bag *= 3
        self.assertEqual(str(bag), "3 of 1, 3 of 2")
        number = 2
        number *= bag
        self.assertEqual(str(number), "6 of 1, 6 of 2")
        self.assertEqual([str(elder), str(other)], ["2 of 1", "1 of 1, 1 of 2"])


class ComparingTest(Case):

    def test_orders(self):
        for seed in range(3):
            bags = list(some_bags(seed, 30, 1)) + [Bag()]
            for one in bags:
                for other in bags:
                    rows = [row for row, _ in [*one, *other]]
                    within = all(one.often(row) <= other.often(row) for row in rows)
                    equal = all(one.often(row) == other.often(row) for row in rows)
                    self.same([one <= other, one < other, other >= one, other > one],
                              [within, within and not equal, within, within and not equal])
                    self.same([one == other, one != other], [equal, not equal])

    def test_orders_are_no_whole_ones(self):
        one, other = Bag(((1,), 1)), Bag(((2,), 1))
        self.same([one <= other, one < other, one >= other, one > other], [False] * 4)

    def test_equality_with_any_value(self):
        bag = Bag(((1,), 2))
        for value in any_values():
            expected = isinstance(value, Bag) and str(value) == "2 of 1"
            self.same([bag == value, bag != value], [expected, not expected])
        self.assertEqual(bag, Bag(((1,), 1), ((1,), 1)))
        self.assertNotEqual(bag, Bag(((1,), 3)))
        self.assertNotEqual(bag, tuple(bag))


class TextTest(Case):

    def test_str(self):
        self.assertEqual(str(Bag(((3, 4), 1), ((1, None), 2))), "2 of 1 null, 1 of 3 4")
        self.assertEqual(str(Bag(((-3,), MOST))), f"{MOST} of -3")
        self.assertEqual(str(Bag(((None, None, None), 1))), "1 of null null null")

    def test_what_is_written_is_read(self):
        for width in (1, 2, 3):
            for bag in some_bags(width, 40, width):
                self.assertEqual(Bag.read(str(bag)), bag)
        self.assertEqual(Bag.read(text="2 of 5"), Bag(((5,), 2)))
        great = Bag(((10 ** 60 - 1, 1 - 10 ** 60, None), MOST))
        self.assertEqual(Bag.read(str(great)), great)

    def test_any_value_that_is_no_text(self):
        for value in any_values():
            if not isinstance(value, str):
                self.refused(BadText(0, 0), Bag.read, value)

    def test_words_that_cannot_stand(self):
        wrong = {
            "": 0, " ": 0, "none ": 1, "none none": 1, "none, 1 of 1": 0, "None": 0, " none": 0, "1": 1, "1 ": 1,
            "1 of": 2, "1 of ": 2, "1 of ,": 2, "1 of 1,": 3, "1 of 1, ": 3, "1 of 1,,": 2, "1 of 1 ,": 3,
            "0 of 1": 0, "-1 of 1": 0, "01 of 1": 0, "+1 of 1": 0, "1.0 of 1": 0, "one of 1": 0, "1, of 1": 0,
            f"{MOST + 1} of 1": 0, "1 off 1": 1, "1 1": 1, "1 of of": 2, "1 of 01": 2, "1 of -0": 2, "1 of +1": 2,
            "1 of --1": 2, "1 of 1_0": 2, "1 of 1\n": 2, "1 of NULL": 2, "1 of null,": 3, "1 of 1 2 3 4": 5,
            "1 of 1 2 3, 1 of 1 2 4 5": 10, "1 of 1 2 3 ": 5, "1 of 1 2 ": 4, "1  of 1": 1, "1 of 1 of 2": 3,
            "1 of 1 1 of 2": 4, "1 of 1, 1 of 2 1 of 3": 6, "1 of 1, 1 of 2 3": 6, "1 of 1 2, 1 of 2": 7,
            "1 of 1 2, 1 of 2, 1 of 3 4": 6, "1 of 1 2, 1 of 3 4, 0 of 5 6": 8, "1 of 1, none": 3,
            f"1 of {10 ** 60}": 2, f"1 of -{10 ** 60}": 2,
        }
        for text, word in wrong.items():
            self.refused(BadText(0, word), Bag.read, text)

    def test_rows_that_are_not_greater(self):
        wrong = {
            "1 of 5, 1 of 4": 5, "1 of 5, 1 of 5": 5, "1 of null, 1 of 5": 5, "1 of null, 1 of null": 5,
            "1 of 1 2, 1 of 0 9": 6, "1 of 1 2, 1 of 1 1": 7, "1 of 1 2, 1 of 1 2": 7, "1 of 1 2, 1 of 1 2, 1 of 0 0": 7,
            "1 of 1 null, 1 of 1 7": 7, "1 of null 2, 1 of 1 3": 6, "1 of 1 2 3, 1 of 1 2 3": 9,
            "1 of 1 2 3, 1 of 1 1 4": 8, "1 of 1 2 3, 1 of 0": 7, "1 of 1 2 3, 1 of 1 2 2": 9, "1 of 1 2, 1 of 0,": 6,
            "1 of 1, 1 of 3, 1 of 2": 8, "1 of 1 2, 1 of 1 1 x": 7,
        }
        for text, word in wrong.items():
            self.refused(BadText(0, word), Bag.read, text)
        for text in ["1 of 1 9, 1 of 2 0", "1 of 1 9, 1 of null 0", "1 of 1 2 3, 1 of 1 3 0", "1 of 1 2 3, 1 of 1 null 0"]:
            self.assertEqual(str(Bag.read(text)), text)

    def test_too_many_rows_are_told_behind_words(self):
        text = ", ".join(f"1 of {at}" for at in range(61))
        self.assertEqual(len(Bag.read(text.rpartition(",")[0])), 60)
        self.refused(TooMany("rows", 60), Bag.read, text)
        self.refused(BadText(0, 183), Bag.read, text + " 7")

    def test_changed_words(self):
        """Every text near a right one is read back as it is, or refused at the first word that cannot stand."""
        pool = ["", "none", "of", "of,", "null", "null,", "0", "1", "2,", "-1", "7", "x", "1\n"]
        for base in ["none", "2 of 5", "2 of 1 null, 1 of 3 4", "1 of 1, 2 of 2, 3 of null", "1 of 1 2 3, 1 of 1 2 null"]:
            words = base.split(" ")
            for at in range(len(words) + 1):
                self.check_text(words[:at] + words[at + 1:])
                for word in pool:
                    self.check_text(words[:at] + [word] + words[at:])
                    self.check_text(words[:at] + [word] + words[at + 1:])

    def check_text(self, words):
        text = " ".join(words)
        word = first_wrong(text.split(" "))
        if word is None:
            self.assertEqual(str(Bag.read(text)), text)
        else:
            self.refused(BadText(0, word), Bag.read, text)


def first_wrong(words, widths=(1, 2, 3)):
    """The first index at which no text of a bag goes on so, or at which a row is not greater; otherwise None."""
    found = [many - 1 for many in range(1, len(words) + 1) if not can_go_on(words[:many], widths)][:1]
    found += [] if found or can_be_whole(words, widths) else [len(words)]
    read = words[:found[0]] if found else words
    return min([*found, *lesser_values(read)], default=None)


def can_go_on(words, widths):
    """Whether some few words behind these make a whole text, the order of rows left aside."""
    nulls = [["null"] * many for many in range(4)]
    ends = [*nulls, *[["of", *row] for row in nulls], *[["1", "of", *row] for row in nulls]]
    return any(can_be_whole(words + end, widths) for end in ends)


def can_be_whole(words, allowed):
    """Whether these words are the text of a bag with rows of an allowed width, the order of rows left aside."""
    text = " ".join(words)
    if text == "none":
        return True
    widths = set()
    for part in text.split(", "):
        times, _, row = part.partition(" of ")
        values = row.split(" ")
        if not 1 <= whole_number(times) <= MOST or any(v != "null" and whole_number(v) is False for v in values):
            return False
        widths.add(len(values))
    return len(widths) == 1 and max(widths) in allowed


def lesser_values(words):
    """The indexes of the values that are told of rows which are not greater than those ahead of them."""
    rows, begun = [[]], 0
    for at, word in enumerate(words):
        if at >= begun + 2:
            value = word.rstrip(",")
            rows[-1].append(((value == "null", 0 if value == "null" else whole_number(value)), at))
        if word.endswith(","):
            rows.append([])
            begun = at + 1
    for ahead, row in zip(rows, rows[1:]):
        equal = 0
        while equal < len(row) and row[equal][0] == ahead[equal][0]:
            equal += 1
        if equal == len(ahead):
            yield row[-1][1]
        elif equal < len(row) and row[equal][0] < ahead[equal][0]:
            yield row[equal][1]


def whole_number(word):
    """The integer of a word, or False."""
    plain = word.removeprefix("-")
    return int(word) if plain.isdecimal() and str(int(word)) == word else False


if __name__ == "__main__":
    unittest.main()
