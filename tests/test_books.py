"""Promises [2], [7], [8] and books.py."""

import itertools
import random
import unittest

from anything import Case, any_values
from judging import Case as Judged
from judging import RULES, rule_made
from rowcounts.bags import Bag
from rowcounts.bases import Base
from rowcounts.books import Book
from rowcounts.errors import BadBase, BadBook, BadRule, BadText, CountError, NoColumn, NoTable, TooMany
from rowcounts.judge import Parted, Shown, never_more
from rowcounts.look_judge import shows_parted, shows_shown
from rowcounts.questions import Empty, Table
from rowcounts.rules import Alike, Apart, Inside, Rule, Within
from rowcounts.truths import Below, Has, Missing
from test_rules import big, own_broken_at
from test_words import POOL, first_wrong
from trees import some_question

A, B, C, D = Table("a"), Table("b"), Table("c"), Table("d")

BASE = Base(("x",), a=Bag(((1,), 2), ((3,), 1)), b=Bag(((1,), 1)))

CHAIN = (Within(A, B), Within(B, C), Within(A, C))


def some_rules(dice, many, depth=1, names="abc"):
    """Drawn rules as words with two trees."""
    return [(dice.choice(list(RULES)), some_question(dice, depth, names), some_question(dice, depth, names))
            for _ in range(many)]


class MakingTest(Case):

    def test_what_a_book_is_made_of(self):
        book = Book(*CHAIN)
        self.assertEqual([len(book), list(book), len(Book()), list(Book())], [3, list(CHAIN), 0, []])
        self.assertEqual([book[0], book[-1], book[1]], [CHAIN[0], CHAIN[2], CHAIN[1]])
        for at in (3, -4, 100):
            with self.assertRaises(IndexError):
                book[at]
        for part in (slice(0, 2), slice(None, None, -1), slice(5, 9), slice(1, None), slice(None, None, 2)):
            self.assertEqual([type(book[part]), book[part]], [Book, Book(*CHAIN[part])])

    def test_pairs(self):
        book = Book(Alike(A, B), Apart(A, C), Within(B, C), Inside(B, C))
        self.assertEqual(book.pairs, ((A, B), (B, A), (A & C, Empty()), (B, C), (B // Has(C), Empty())))
        self.same([Book().pairs, type(book.pairs)], [(), tuple])

    def test_values_that_are_no_rules(self):
        for value in any_values():
            if not isinstance(value, Rule):
                self.refused(BadBook(0), Book, value)
                self.refused(BadBook(2), Book, CHAIN[0], CHAIN[1], value, value)
                self.refused(BadBook(8), Book, *[CHAIN[0]] * 8, value)

    def test_eight_rules_and_one_more(self):
        rules = [Within(A, B * n) for n in range(9)]
        self.same([len(Book(*rules[:8])), len(Book(*rules[:7]) + rules[8])], [8, 8])
        self.refused(TooMany("rules", 8), Book, *rules)
        self.refused(TooMany("rules", 8), lambda: Book(*rules[:8]) + rules[8])
        self.refused(TooMany("rules", 8), lambda: Book(*rules[:5]) + Book(*rules[:4]))

    def test_contains(self):
        book = Book(CHAIN[0], Alike(A, B))
        self.same([CHAIN[0] in book, Within(A, B) in book, Within(B, A) in book, Inside(A, B) in book, A in book,
                   Alike(A, B) in book, Alike(A, B) in Book()], [True, True, False, False, False, True, False])
        for value in any_values():
            told = isinstance(value, Rule) and str(value) in ("within a ; b", "alike a ; b")
            self.same(value in book, told)

    def test_equality(self):
        def made():
            one, other = Within(A, B), Alike(A, B)
            return [Book(), Book(one), Book(other), Book(one, other), Book(other, one), Book(one, one), Book(one, one, one)]
        for at, one in enumerate(made()):
            for place, other in enumerate(made()):
                self.same([one == other, one != other], [at == place, at != place])
            for value in [*any_values(), *[list(book) for book in made()], *[tuple(book) for book in made()]]:
                if not isinstance(value, Book):
                    self.same([one == value, one != value], [False, True])


class SumsTest(Case):

    def test_plus(self):
        book = Book(CHAIN[0])
        self.assertEqual([book + CHAIN[1], book + book, book + Book()],
                         [Book(*CHAIN[:2]), Book(CHAIN[0], CHAIN[0]), book])
        self.assertEqual(book + Book(*CHAIN), Book(CHAIN[0], *CHAIN))
        held = book
        held += CHAIN[1]
        self.assertEqual([held, book], [Book(*CHAIN[:2]), Book(CHAIN[0])])

    def test_minus(self):
        book = Book(CHAIN[0], CHAIN[1], CHAIN[0])
        self.assertEqual([book - CHAIN[0], book - Within(B, C)], [Book(CHAIN[1]), Book(CHAIN[0], CHAIN[0])])
        held = book
        held -= CHAIN[0]
        self.assertEqual([held, len(book), Book(CHAIN[0]) - CHAIN[0]], [Book(CHAIN[1]), 3, Book()])

    def test_any_value(self):
        for book in (Book(), Book(CHAIN[0]), Book(*[CHAIN[1]] * 8)):
            for value in any_values():
                if not isinstance(value, (Rule, Book)):
                    self.refused(BadBook(None), lambda: book + value)
                if value not in list(book):
                    self.refused(BadBook(None), lambda: book - value)
            self.refused(BadBook(None), lambda: book - book)
            self.refused(BadBook(None), lambda: book - CHAIN[2])


class KeepingTest(Case):

    def test_told_ones(self):
        book = Book(Within(B, A), Apart(A - B, B), Inside(A, B), Within(A, B))
        self.same([book.keeps(BASE), book.first_broken(BASE), book[:1].keeps(BASE), book[:1].first_broken(base=BASE)],
                  [False, (1, (1,)), True, None])
        self.same([Book().keeps(base=BASE), Book().first_broken(BASE), book[2:].first_broken(BASE)], [True, None, (0, (3,))])

    def test_drawn_ones(self):
        dice = random.Random(83)
        broken = 0
        for _ in range(300):
            told = some_rules(dice, dice.randrange(4), dice.choice([0, 1, 2]))
            bags = {name: Bag(*[((dice.choice([None, 0, 1, 2]), dice.choice([None, 0, 1])), dice.randint(1, 3))
                                for _ in range(dice.randrange(4))]) for name in "abc"}
            base, book = Base.of(("x", "y"), bags), Book(*map(rule_made, told))
            rows = [own_broken_at(rule, base) for rule in told]
            expected = next(((at, row) for at, row in enumerate(rows) if row is not None), None)
            self.same([book.keeps(base), book.first_broken(base)], [expected is None, expected])
            broken += expected is not None
        self.assertGreater(min(broken, 300 - broken), 50)

    def test_errors(self):
        for value in any_values():
            if not isinstance(value, Base):
                for book in (Book(CHAIN[0]), Book(*CHAIN)):
                    self.refused(BadBase("base"), book.keeps, value)
                    self.refused(BadBase("base"), book.first_broken, value)
        for book, error in ((Book(Within(B, A), Within(A, C)), NoTable("c")),
                            (Book(Within(B, A), Within(A % Missing("y"), A)), NoColumn("y"))):
            self.refused(error, book.keeps, BASE)
            self.refused(error, book.first_broken, base=BASE)
        great = BASE.with_bag("a", Bag(((1,), 10 ** 30)))
        self.refused(TooMany("times", 10 ** 30), Book(Within(B, A), Within(A * 2, B)).keeps, great)

    def test_rules_behind_a_broken_one_are_not_asked(self):
        book = Book(Within(B, A), Within(A, B), Within(A, C))
        self.same([book.keeps(BASE), book.first_broken(BASE)], [False, (1, (1,))])


class FollowingTest(Case):

    def check_follows(self, told, asked):
        """What a book of told rules tells of another one, against the own reckoning; whether it follows."""
        book, rule = Book(*map(rule_made, told)), rule_made(asked)
        pairs = [Judged(one, other, told) for one, other in own_pairs(asked)]
        found = book.follows(rule)
        if isinstance(found, tuple):
            self.assertEqual(len(found), len(pairs))
            for pair, paper in zip(pairs, found):
                self.assertTrue(pair.is_shown(paper))
                self.assertEqual(list(itertools.islice(pair.small_partings(2), 1)), [])
            return True
        at = 0
        while isinstance(never_more(*rule.pairs[at], *book), Shown):
            self.assertEqual(list(itertools.islice(pairs[at].small_partings(2), 1)), [])
            at += 1
        self.assertTrue(pairs[at].is_parted(found))
        return False

    def test_drawn_rules(self):
        dice = random.Random(89)
        told = {True: 0, False: 0}
        while min(told.values()) < 60:
            rules, asked = some_rules(dice, dice.randrange(3)), some_rules(dice, 1)[0]
            if all(Judged(one, other, rules).fits() for one, other in own_pairs(asked)):
                told[self.check_follows(rules, asked)] += 1

    def test_the_first_pair_that_does_not_follow(self):
        """Of Alike the second pair may be the first that does not follow: its Parted is right for it alone."""
        found = Book(Within(A, B)).follows(Alike(A, B))
        self.same([shows_parted(B, A, found, Within(A, B)), shows_parted(A, B, found, Within(A, B))], [True, False])
        found = Book(Within(B, A)).follows(rule=Alike(A, B))
        self.same([shows_parted(A, B, found, Within(B, A)), shows_parted(B, A, found, Within(B, A))], [True, False])
        found = Book(Alike(A, B)).follows(Alike(B, A))
        self.same([len(found), shows_shown(B, A, found[0], Alike(A, B)), shows_shown(A, B, found[1], Alike(A, B))],
                  [2, True, True])
        self.same([len(Book().follows(Within(A & B, A))), type(Book().follows(Within(A, B)))], [1, Parted])

    def test_errors(self):
        for value in any_values():
            if not isinstance(value, Rule):
                self.refused(BadRule("rule"), Book(*CHAIN).follows, value)
                self.refused(BadRule("rule"), Book(*[Alike(A, B)] * 8).follows, value)
        self.refused(TooMany("rules", 4), Book(*[Within(A, B)] * 5).follows, Within(A, B))
        self.refused(TooMany("rules", 4), Book(*[Alike(A, B)] * 3).follows, Within(A, B))
        self.same([len(Book(*[Alike(A, B)] * 2).follows(Within(A, B))), len(Book(*CHAIN, CHAIN[0]).follows(CHAIN[0]))],
                  [1, 1])
        self.refused(TooMany("operators", 10), Book(Within(big(6), B)).follows, Within(big(5), B))
        self.same(len(Book(Within(big(6), B)).follows(Within(big(4), B))), 1)
        self.refused(TooMany("tables", 4), Book(Within(A, B), Within(C, D)).follows, Within(A, Table("e")))
        tests = [Below("x", n) for n in range(4)]
        self.refused(TooMany("conditions", 3), Book(Within(A % tests[0], B % tests[1])).follows,
                     Within(A % tests[2], B % tests[3]))
        self.refused(TooMany("operators", 10), Book(*[Within(big(3), B)] * 5).follows, Within(A, Table("e") & B))

    def test_what_is_returned_belongs_to_the_caller(self):
        book = Book(Within(B, A))
        book.follows(Within(A, B)).counts["a"] = -5
        self.same(shows_parted(A, B, book.follows(Within(A, B)), Within(B, A)), True)


def own_pairs(rule):
    """The pairs of trees of a rule of trees."""
    word, one, other = rule
    return {"within": [(one, other)], "alike": [(one, other), (other, one)], "apart": [(("&", one, other), ("empty",))],
            "inside": [(("unless", one, ("has", other)), ("empty",))]}[word]


def reached(edges, one, other):
    """Whether a way of edges leads from a name to another one."""
    known = {one}
    while True:
        more = {end for start, end in edges if start in known} - known
        if not more:
            return other in known
        known |= more


def edges_of(rule):
    """The ways of a rule between tables: Within one, Alike both."""
    one, other = str(rule.one), str(rule.other)
    return [(one, other), (other, one)] if isinstance(rule, Alike) else [(one, other)]


def own_follows(rules, rule):
    """Between tables, a rule follows exactly if there are ways."""
    edges = [edge for told in rules for edge in edges_of(told)]
    return all(reached(edges, *edge) for edge in edges_of(rule))


def own_needless(rules):
    return tuple(at for at, rule in enumerate(rules) if own_follows([*rules[:at], *rules[at + 1:]], rule))


def own_bare(rules):
    left = list(rules)
    for at in range(len(rules) - 1, -1, -1):
        if own_follows([*left[:at], *left[at + 1:]], left[at]):
            del left[at]
    return left


class NeedlessTest(Case):

    def check_rules(self, *rules):
        book = Book(*rules)
        self.same(book.needless(), own_needless(rules))
        self.assertEqual([type(book.bare()), list(book.bare()), list(book)], [Book, own_bare(rules), list(rules)])

    def test_chains_rounds_and_equal_rules(self):
        self.check_rules()
        self.check_rules(*CHAIN)
        self.check_rules(Within(A, C), Within(A, B), Within(B, C))
        self.check_rules(Within(A, B), Within(B, C), Within(C, A), Within(A, C))
        self.check_rules(Within(A, B), Within(B, C), Within(C, D), Within(D, A), Within(A, C))
        self.check_rules(Within(A, B), Within(A, B))
        self.check_rules(Within(A, B), Alike(A, B), Within(B, A))
        self.check_rules(Within(A, A))
        self.check_rules(Alike(A, B), Alike(B, C), Within(A, C))
        self.same([Book(Within(A, B), Within(A, B)).needless(), list(Book(Within(A, B), Within(A, B)).bare())],
                  [(0, 1), [Within(A, B)]])

    def test_drawn_ones(self):
        dice = random.Random(97)
        told = {}
        for _ in range(150):
            rules = [dice.choice([Within, Within, Within, Alike])(Table(dice.choice("abcd")), Table(dice.choice("abcd")))
                     for _ in range(dice.randint(1, 5))]
            most = max(len(Book(*rules[:at], *rules[at + 1:]).pairs) for at in range(len(rules)))
            if most <= 4:
                self.check_rules(*rules)
                told[len(Book(*rules).needless())] = True
        self.assertGreater(len(told), 3)

    def test_other_rules(self):
        self.same(Book(Apart(A, B), Within(A & B, Empty())).needless(), (0, 1))
        self.same(Book(Inside(A, B), Within(A, B), Apart(A, C), Apart(B, C)).needless(), (0, 2))
        self.assertEqual(list(Book(Inside(A, B), Within(A, B), Apart(A, C), Apart(B, C)).bare()),
                         [Within(A, B), Apart(B, C)])
        low = Below("x", 5)
        self.assertEqual(list(Book(Within(A % low, B), Within(A // low, B), Within(A, B)).bare()),
                         [Within(A % low, B), Within(A // low, B)])
        self.same(Book(Within(A % low, B), Within(A // low, B), Within(A, B)).needless(), (0, 1, 2))

    def test_too_many(self):
        five, six = [Within(A, B * n) for n in range(1, 6)], [Within(A, B)] * 6
        self.refused(TooMany("operators", 10), Book(*five, Within(big(9), B)).needless)
        self.refused(TooMany("rules", 4), Book(*six).needless)
        self.refused(TooMany("rules", 4), Book(*six).bare)
        self.same([Book(*five).needless(), list(Book(*five).bare()) == five[:1]], [(1, 2, 3, 4), True])

    def test_the_order_of_asking(self):
        """Asked for the first rule, both questions of the last one count twice, asked for the last one, once."""
        book = Book(Within(A, B), Alike(A, B), Alike(A, C), Alike(big(6), B))
        self.refused(TooMany("operators", 10), book.needless)
        self.refused(TooMany("rules", 4), book.bare)
        book = Book(Alike(A, B), Alike(B, C), Alike(A, C))
        self.same([book.needless(), len(book.bare())], [(0, 1, 2), 2])


class TextTest(Case):

    def check_text(self, text):
        word = first_wrong(text.split(" "), "book")
        if word is not None:
            self.refused(BadText(0, word), Book.read, text)
            return
        try:
            found = Book.read(text)
        except CountError as error:
            self.assertIn(vars(error), ({"what": "size", "most": 40}, {"what": "rules", "most": 8}))
            return
        self.assertEqual([str(found), type(found)], [text, Book])

    def test_what_is_written_is_read(self):
        dice = random.Random(101)
        self.assertEqual([str(Book()), Book.read("none"), str(Book(*CHAIN[:2]))],
                         ["none", Book(), "within a ; b / within b ; c"])
        for many in range(9):
            rules = [rule_made(rule) for rule in some_rules(dice, many, 2)]
            book = Book(*rules)
            self.assertEqual([Book.read(str(book)), Book.read(text=str(book))], [book, book])
            self.same(str(book), " / ".join(map(str, rules)) or "none")

    def test_any_value(self):
        for value in any_values():
            if isinstance(value, str):
                self.check_text(value)
            else:
                self.refused(BadText(0, 0), Book.read, value)

    def test_told_words(self):
        wrong = {
            "": 0, "none ": 1, "none none": 1, "none / none": 1, "none / within a ; b": 1, "within a ; b /": 5,
            "within a ; b / ": 5, "within a ; b none": 4, "within a ; b / none": 5, "within a ; b within a ; b": 4,
            "within a ; b // within a ; b": 4, "within a ; b / within a": 7, "within a ; b / within a ;": 8,
            "within a ; b / within a / b": 7, "/ within a ; b": 0, "within a ; b / / within a ; b": 5,
            "within a ; ( b / within a ; b )": 5, "within a ; b / alike ( a + b ; c": 10, "None": 0,
        }
        for text, word in wrong.items():
            self.refused(BadText(0, word), Book.read, text)
            self.assertEqual(first_wrong(text.split(" "), "book"), word, text)

    def test_changed_words(self):
        pool = [*POOL, ";", "/", "->", "within", "inside"]
        for text in ("none", "within a ; b / apart ( 2 * a ) ; ( b where x null )", "alike a ; b / inside a ; b / within a ; c"):
            words = text.split(" ")
            for at in range(len(words) + 1):
                for word in pool:
                    self.check_text(" ".join([*words[:at], word, *words[at:]]))
                    self.check_text(" ".join([*words[:at], word, *words[at + 1:]]))
                self.check_text(" ".join([*words[:at], *words[at + 1:]]))
                self.check_text(" ".join([*words[:at], *words[at:at + 1], *words[at:]]))
                self.check_text(" ".join(words[:at]))

    def test_too_many(self):
        nine = " / ".join(["within a ; b"] * 9)
        self.assertEqual(len(Book.read(nine.removesuffix(" / within a ; b"))), 8)
        self.refused(TooMany("rules", 8), Book.read, nine)
        self.refused(BadText(0, 44), Book.read, nine + " ;")
        self.refused(TooMany("size", 40), Book.read, f"{nine} / inside {big(40)} ; a")
        self.refused(BadText(0, 44 + 1 + 1 + 161 + 1), Book.read, f"{nine} / inside {big(40)} ;")


if __name__ == "__main__":
    unittest.main()
