"""Promises [2], [12], [13] and rewrites.py."""

import itertools
import random
import unittest

from anything import Case, any_values
from judging import Case as Judged
from rowcounts.errors import BadQuestion, BadRewrite, BadText, CountError, NoFit, NoPlace, TooMany, Unlike
from rowcounts.judge import Agreed, Parted, alike
from rowcounts.look_judge import shows_agreed, shows_parted
from rowcounts.questions import Empty, Question, Table
from rowcounts.rewrites import Rewrite
from rowcounts.truths import Below, Equals, Has, Missing
from rowcounts.words import read_question
from test_rules import big
from test_words import POOL, first_wrong
from trees import leaves_of, made_of, size_of, some_question, text_of

A, B, C = Table("a"), Table("b"), Table("c")

X, Y, Z = Table("x"), Table("y"), Table("z")

RIGHT = [
    Rewrite(X - (X - Y), X & Y), Rewrite((X - Y) - Z, X - (Y + Z)), Rewrite(X + Y, Y + X), Rewrite(X & X, X),
    Rewrite(X - X, Empty()), Rewrite(X, X + Empty()), Rewrite(X * 2, X + X), Rewrite(Empty(), Empty() * 3),
    Rewrite(X % Below("x", 5) + X // Below("x", 5), X), Rewrite(X % Has(X), X), Rewrite(X // Has(X), Empty()),
    Rewrite((X + Y) % Missing("y"), X % Missing("y") + Y % Missing("y")),
    Rewrite(X % (Has(Y) & Below("x", 5)), (X % Has(Y)) % Below("x", 5)), Rewrite(X % ~Has(Y), X // Has(Y)),
]

WRONG = [
    Rewrite(X - Y, X // Has(Y)), Rewrite(X - Y, X), Rewrite(X, Empty()), Rewrite(X + X, X), Rewrite(X | Y, X + Y),
    Rewrite(X // Below("x", 5), X % ~Below("x", 5)),
]


def parts_of(tree):
    """All questions in the tree of a question or a test, also those in tests."""
    found = [] if tree[0] in ("not", "has", "and", "or", "<", "<=", "=", "null") else [tree]
    for part in tree[1:]:
        if type(part) is tuple:
            found += parts_of(part)
    return found


def filled_tree(tree, blanks):
    if tree[0] == "table":
        return blanks[tree[1]]
    return tuple(filled_tree(part, blanks) if type(part) is tuple else part for part in tree)


def own_fits(pattern, tree):
    """A dict from the blanks to trees with which a pattern is a tree, found by trying all, or None."""
    names = sorted(leaves_of(pattern)[0])
    for told in itertools.product(list({text_of(part): part for part in parts_of(tree)}.values()), repeat=len(names)):
        blanks = dict(zip(names, told))
        if filled_tree(pattern, blanks) == tree:
            return blanks
    return None


def tree_at(tree, place):
    for step in place:
        tree = [part for part in tree[1:] if type(part) is tuple][step]
    return tree


class MakingTest(Case):

    def test_attributes(self):
        made, named = Rewrite(X - Y, X // Has(Y)), Rewrite(replacement=X // Has(Y), pattern=X - Y)
        self.assertEqual([made.pattern, made.replacement, made == named], [X - Y, X // Has(Y), True])

    def test_right_and_wrong_ones(self):
        for rewrite in RIGHT:
            self.same([rewrite.is_right, shows_agreed(rewrite.pattern, rewrite.replacement, rewrite.verdict)],
                      [True, True])
        for rewrite in WRONG:
            self.same([rewrite.is_right, type(rewrite.verdict)], [False, Parted])
            self.same([shows_parted(rewrite.pattern, rewrite.replacement, rewrite.verdict)
                       or shows_parted(rewrite.replacement, rewrite.pattern, rewrite.verdict)], [True])

    def test_verdicts_of_drawn_ones(self):
        dice = random.Random(103)
        told = {True: 0, False: 0}
        while min(told.values()) < 25:
            one, other = some_question(dice, dice.choice([1, 2]), "xy"), some_question(dice, dice.choice([0, 1, 2]), "xy")
            judged = Judged(one, other)
            if not judged.fits() or leaves_of(other)[0] - leaves_of(one)[0]:
                continue
            rewrite = Rewrite(made_of(one), made_of(other))
            found = rewrite.verdict
            told[rewrite.is_right] += 1
            self.assertEqual([found == alike(made_of(one), made_of(other)), found == rewrite.verdict], [True, True])
            if rewrite.is_right:
                self.assertTrue(type(found) is Agreed and judged.is_shown(found.first)
                                and judged.turned().is_shown(found.last))
            else:
                self.assertTrue(judged.is_parted(found) or judged.turned().is_parted(found))

    def test_verdicts_are_new_each_time(self):
        for rewrite in (*RIGHT, *WRONG):
            one, other = rewrite.verdict, rewrite.verdict
            self.assertEqual([one, one is other], [other, False])
        wrong = WRONG[0]
        wrong.verdict.counts["x"] = -1
        wrong.verdict.counts.clear()
        self.assertEqual([wrong.verdict, wrong.is_right], [alike(X - Y, X // Has(Y)), False])
        trees = RIGHT[0].verdict
        trees.first.trees[0].form = None
        trees.first.trees = ()
        self.assertEqual(RIGHT[0].verdict, alike(X - (X - Y), X & Y))

    def test_back(self):
        self.assertEqual([RIGHT[2].back(), RIGHT[1].back()], [Rewrite(Y + X, X + Y), Rewrite(X - (Y + Z), (X - Y) - Z)])
        back = WRONG[0].back()
        self.same([back.is_right, shows_parted(X // Has(Y), X - Y, back.verdict)
                   or shows_parted(X - Y, X // Has(Y), back.verdict)], [False, True])
        self.refused(BadRewrite("blank"), RIGHT[4].back)
        self.refused(BadRewrite("blank"), Rewrite(X + Y, X).back)

    def test_errors(self):
        for value in any_values():
            if not isinstance(value, Question):
                self.refused(BadRewrite("pattern"), Rewrite, value, X)
                self.refused(BadRewrite("pattern"), Rewrite, value, value)
                self.refused(BadRewrite("pattern"), Rewrite, replacement=value, pattern=value)
                self.refused(BadRewrite("replacement"), Rewrite, X, value)
                self.refused(BadRewrite("replacement"), Rewrite, big(40), value)
        self.refused(BadRewrite("blank"), Rewrite, X, X + (Y - Y))
        self.refused(BadRewrite("blank"), Rewrite, X, X // Has(Y))
        self.refused(BadRewrite("blank"), Rewrite, big(11), X)
        self.refused(BadRewrite("blank"), Rewrite, Empty(), X)

    def test_sizes(self):
        names = [Table(name) for name in "abcde"]
        four = names[0] + names[1] + names[2] + names[3]
        self.same([Rewrite(four, four).is_right, Rewrite(four + A, four).is_right], [True, False])
        self.refused(TooMany("tables", 4), Rewrite, four + names[4], four)
        self.refused(TooMany("tables", 4), Rewrite, four + names[4], big(40))
        self.same(Rewrite(big(6), big(4)).is_right, False)
        self.refused(TooMany("operators", 10), Rewrite, big(6), big(5))
        tests = [Below("x", n) for n in range(4)]
        three = A % tests[0] % tests[1]
        self.same(Rewrite(three, A % tests[2]).is_right, False)
        self.refused(TooMany("conditions", 3), Rewrite, three, A % tests[2] % tests[3])
        self.refused(TooMany("operators", 10), Rewrite, three * 1 * 1 * 1 * 1 * 1, A % tests[2] % tests[3] * 1 * 1)

    def test_equality(self):
        def made():
            return [Rewrite(X, X), Rewrite(Y, Y), Rewrite(X, Empty()), Rewrite(X + Y, Y + X), Rewrite(Y + X, X + Y),
                    Rewrite(X + Y, X), Rewrite(X - Y, X - Y), Rewrite(Empty(), Empty())]
        for at, one in enumerate(made()):
            for place, other in enumerate(made()):
                self.same([one == other, one != other], [at == place, at != place])
            for value in any_values():
                if not isinstance(value, Rewrite):
                    self.same([one == value, one != value], [False, True])


class FittingTest(Case):

    def test_told_ones(self):
        once, twice, none = RIGHT[0], Rewrite(X & X, X), Rewrite(Empty(), Empty())
        deep = C + ((A & B) - ((A & B) - C))
        self.assertEqual([once.fits(deep, (1,)), once.fits(question=deep, place=(0,)), once.fits(deep, ())],
                         [{"x": A & B, "y": C}, None, None])
        self.assertEqual([twice.fits((A - B) & (A - B), ()), twice.fits((A - B) & (A - C), ()), twice.fits(A, ())],
                         [{"x": A - B}, None, None])
        self.assertEqual([none.fits(Empty(), ()), none.fits(A, ()), none.fits(A + Empty(), (1,))], [{}, None, {}])
        self.assertEqual([list(none.places(Empty() + (Empty() & A))), list(Rewrite(X, X).places(question=A + B))],
                         [[(0,), (1, 0)], [(), (0,), (1,)]])
        self.same([type(none.fits(Empty(), ())), list(once.places(deep)), list(once.places(A))], [dict, [(1,)], []])

    def test_tests(self):
        low, has = Below("x", 5), Rewrite(X % (Has(X - Y) | ~Has(Y)), X % (Has(X - Y) | ~Has(Y)))
        self.assertEqual(has.fits((A + B) % (Has((A + B) - C) | ~Has(C)), ()), {"x": A + B, "y": C})
        for wrong in (has.pattern % low, (A + B) % (Has((A + B) - C) | ~Has(B)), A % (Has(B - C) | ~Has(C)),
                      A % (~Has(C) | Has(A - C)), A // (Has(A - C) | ~Has(C)), A % (Has(A - C) & ~Has(C)),
                      A % (Has(A - C) | Has(C)), A % (Has(A & C) | ~Has(C)), A % Has(A - C)):
            self.same(has.fits(wrong, ()), None)
        same = Rewrite(X % low, X % low)
        self.assertEqual([same.fits(B % Below("x", 5), ()), same.fits(B % ~~low, ())], [{"x": B}, {"x": B}])
        for wrong in (B % Below("x", 6), B % Below("y", 5), B // low, B % ~low, B % Equals("x", 5), B % Has(A), A):
            self.same(same.fits(wrong, ()), None)
        self.same([list(Rewrite(X - Y, X - Y).places(A % Has(A - B))), list(Rewrite(X, X).places(A % Has(A - B)))],
                  [[], [(), (0,)]])

    def test_numbers_and_classes(self):
        pairs = [X + Y, X & Y, X | Y, X - Y, X * 2, X * 3, Empty(), X % Has(Y), X // Has(Y)]
        asked = [A + B, A & B, A | B, A - B, A * 2, A * 3, Empty(), A % Has(B), A // Has(B)]
        for at, pattern in enumerate(pairs):
            for place, question in enumerate(asked):
                self.same(Rewrite(pattern, pattern).fits(question, ()) is None, at != place)

    def test_against_all_that_blanks_can_stand_for(self):
        dice = random.Random(107)
        told = {True: 0, False: 0}
        while min(told.values()) < 200:
            pattern = some_question(dice, dice.choice([1, 1, 2]), "xy")
            question = some_question(dice, dice.choice([1, 2, 3]), "ab")
            if dice.random() < 0.5:
                parts = parts_of(question)
                question = filled_tree(pattern, {name: dice.choice(parts) for name in "xy"})
            if size_of(question) > 25 or not Judged(pattern, pattern).fits():
                continue
            rewrite, made = Rewrite(made_of(pattern), made_of(pattern)), made_of(question)
            places = []
            for place in made.places():
                expected = own_fits(pattern, tree_at(question, place))
                found = rewrite.fits(made, place)
                told[expected is not None] += 1
                self.assertEqual(found, expected and {name: made_of(tree) for name, tree in expected.items()})
                if found is not None:
                    places.append(place)
                    self.assertEqual(rewrite.pattern.filled(found), made[place])
            self.same(list(rewrite.places(made)), places)

    def test_great_questions(self):
        great = (big(19) - (big(19) - C))
        self.same(great.size, 40)
        self.assertEqual([RIGHT[0].fits(great, ()), list(RIGHT[0].places(great))], [{"x": big(19), "y": C}, [()]])
        self.same(len(list(RIGHT[2].places(big(40)))), 40)

    def test_what_is_returned_belongs_to_the_caller(self):
        blanks = RIGHT[2].fits(A + B, ())
        blanks["x"] = None
        self.assertEqual(RIGHT[2].fits(A + B, ()), {"x": A, "y": B})

    def test_errors(self):
        for rewrite in (RIGHT[0], WRONG[0]):
            for value in any_values():
                if not isinstance(value, Question):
                    self.refused(BadQuestion("question"), rewrite.fits, value, ())
                    self.refused(BadQuestion("question"), rewrite.fits, value, value)
                    self.refused(BadQuestion("question"), lambda: next(rewrite.places(value)))
                    self.refused(BadQuestion("question"), rewrite.done, value, ())
                    self.refused(BadQuestion("question"), rewrite.done, place=(5,), question=value)
                if value not in ((), (0,), (1,)) or value == (True,) and type(value[0]) is bool:
                    self.refused(NoPlace(value), rewrite.fits, A + B, value)
                    self.refused(NoPlace(value), rewrite.done, A + B, value)


class DoneTest(Case):

    def test_told_ones(self):
        deep = C + ((A & B) - ((A & B) - C))
        self.assertEqual([RIGHT[0].done(deep, (1,)), RIGHT[5].done(question=A + B, place=(0,)), RIGHT[4].done(A - A, ())],
                         [C + ((A & B) & C), (A + Empty()) + B, Empty()])
        self.assertEqual(RIGHT[1].done((((A - B) - C) % Below("x", 5)), (0,)), (A - (B + C)) % Below("x", 5))
        self.assertEqual(RIGHT[12].done(A % (Has(B + C) & Below("x", 5)), ()), (A % Has(B + C)) % Below("x", 5))
        self.assertEqual(RIGHT[3].done((A & A) & (A & A), ()), A & A)

    def test_each_place(self):
        """What is done tells the same, and is the question with another part at the place."""
        dice = random.Random(109)
        many = 0
        while many < 200:
            question = some_question(dice, dice.choice([2, 3]), "ab")
            if size_of(question) > 20:
                continue
            made = made_of(question)
            for rewrite in RIGHT:
                for place in rewrite.places(made):
                    found = rewrite.done(made, place)
                    part = rewrite.replacement.filled(rewrite.fits(made, place))
                    self.assertEqual(found, made.put(place, part))
                    many += 1
                    values = {"x": dice.choice([None, 0, 1, 4, 5]), "y": dice.choice([None, 0, 1])}
                    counts = {name: dice.choice([0, 0, 1, 2, 7]) for name in found.names + made.names}
                    self.same(found.often(values, counts), made.often(values, counts))

    def test_errors_in_order(self):
        right, wrong = RIGHT[0], WRONG[0]
        self.refused(NoPlace((0, 0)), wrong.done, A + B, (0, 0))
        self.refused(NoPlace((True,)), wrong.done, A + B, (True,))
        self.refused(NoFit(()), right.done, A + B, ())
        self.refused(NoFit((1,)), right.done, A + (B + C), (1,))
        self.refused(NoPlace((2,)), right.done, big(40), (2,))
        for place in ((), (0,)):
            self.refused(Unlike(alike(X - Y, X // Has(Y))), wrong.done, A - B, place)
        great = big(40)
        self.refused(NoFit((0,)), RIGHT[3].done, great, (0,))
        self.refused(TooMany("size", 40), RIGHT[5].done, great, (0, 1))
        self.same(RIGHT[5].done(big(39), (0, 1)).size, 40)
        self.refused(TooMany("size", 40), RIGHT[6].done, big(20) * 2, ())
        self.same(RIGHT[6].done(big(19) * 2, ()).size, 39)

    def test_unlike_has_a_new_paper(self):
        wrong = WRONG[0]
        for _ in range(2):
            try:
                wrong.done(A - B, ())
            except Unlike as error:
                self.assertEqual(error.paper, alike(X - Y, X // Has(Y)))
                error.paper.counts["x"] = None

    def test_arguments_stay(self):
        question = C + ((A & B) - ((A & B) - C))
        before = str(question)
        RIGHT[0].done(question, (1,))
        self.same([str(question), str(RIGHT[0])], [before, "( x - ( x - y ) ) -> ( x & y )"])


class TextTest(Case):

    def check_text(self, text):
        word = first_wrong(text.split(" "), "rewrite")
        if word is not None:
            self.refused(BadText(0, word), Rewrite.read, text)
            return
        one, other = map(read_question, text.split(" -> "))
        if any(name not in one.names for name in other.names):
            self.refused(BadRewrite("blank"), Rewrite.read, text)
            return
        try:
            found = Rewrite.read(text)
        except CountError as error:
            self.refused(error, Rewrite, one, other)
            return
        self.assertEqual([str(found), type(found), found], [text, Rewrite, Rewrite(one, other)])

    def test_what_is_written_is_read(self):
        for rewrite in (*RIGHT, *WRONG):
            self.same(str(rewrite), f"{rewrite.pattern} -> {rewrite.replacement}")
            self.assertEqual([Rewrite.read(str(rewrite)), Rewrite.read(text=str(rewrite))], [rewrite, rewrite])

    def test_any_value(self):
        for value in any_values():
            if isinstance(value, str):
                self.check_text(value)
            else:
                self.refused(BadText(0, 0), Rewrite.read, value)

    def test_told_words(self):
        wrong = {
            "": 0, "x": 1, "x ->": 2, "x -> ": 2, "x -> x ": 3, "x -> x x": 3, "x -> x -> x": 3, "-> x": 0,
            "x - > x": 1, "x ; x": 1, "( x + y -> x": 4, "( x + y ) -> ( x": 8, "x -> none": 2, "within x -> x": 1,
        }
        for text, word in wrong.items():
            self.refused(BadText(0, word), Rewrite.read, text)
            self.assertEqual(first_wrong(text.split(" "), "rewrite"), word, text)

    def test_changed_words(self):
        pool = [*POOL, ";", "/", "->"]
        for text in ("a -> ( a & a )", "( a where has ( 2 * a ) ) -> a", "( ( a - x ) unless not x null ) -> a"):
            words = text.split(" ")
            for at in range(len(words) + 1):
                for word in pool:
                    self.check_text(" ".join([*words[:at], word, *words[at:]]))
                    self.check_text(" ".join([*words[:at], word, *words[at + 1:]]))
                self.check_text(" ".join([*words[:at], *words[at + 1:]]))
                self.check_text(" ".join([*words[:at], *words[at:at + 1], *words[at:]]))
                self.check_text(" ".join(words[:at]))

    def test_what_the_class_raises(self):
        self.refused(BadRewrite("blank"), Rewrite.read, "x -> y")
        self.refused(TooMany("operators", 10), Rewrite.read, f"{big(11)} -> a")
        broad = "a"
        for _ in range(6):
            broad = f"( {broad} + {broad} )"
        self.refused(TooMany("size", 40), Rewrite.read, f"a -> {broad}")
        self.refused(BadText(0, 2 + len(broad.split(" "))), Rewrite.read, f"a -> {broad} )")
        deep = "( 1 * " * 41 + "a" + " )" * 41
        self.refused(BadText(0, 2 + 3 * 40), Rewrite.read, f"a -> {deep}")


if __name__ == "__main__":
    unittest.main()
