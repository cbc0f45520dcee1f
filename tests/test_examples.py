"""The examples of the document, with the answers that are shown there."""

import unittest

from rowcounts import errors

EXAMPLES = r"""
>>> from rowcounts.bags import Bag
>>> bag, more = Bag(((3, None), 2), ((1, 4), 1), ((3, None), 1)), Bag.of([(1, 4), (1, 4), (2, 2)])
>>> [str(bag), bag.width, bag.whole, bag.often((3, None)), (1, None) in bag, len(bag), bag[:1]]
['1 of 1 4, 3 of 3 null', 2, 4, 3, False, 2, (((1, 4), 1),)]
>>> [str(bag + more), str(bag & more), str(bag | more), str(more - bag), str(2 * more), bag & more <= bag, Bag.read("2 of 5") == Bag(((5,), 2))]
['3 of 1 4, 1 of 2 2, 3 of 3 null', '1 of 1 4', '2 of 1 4, 1 of 2 2, 3 of 3 null', '1 of 1 4, 1 of 2 2', '4 of 1 4, 2 of 2 2', True, True]
>>> Bag(((1,), 1), ((1, 2), 1))
raises BadBag(1)
>>> Bag.read("1 of 5, 1 of 4")
raises BadText(0, 5)
>>> from rowcounts.questions import Empty, Table
>>> from rowcounts.truths import Below, Has, Missing
>>> a, b, c = Table("a"), Table("b"), Table("c")
>>> asked = (a - b) % Below("x", 5) + (c // Has(a & b)) * 2
>>> [str(asked), asked.size, asked.names, asked.columns, [str(one) for one in asked.conditions], "b" in asked]
['( ( ( a - b ) where x < 5 ) + ( 2 * ( c unless has ( a & b ) ) ) )', 7, ('a', 'b', 'c'), ('x',), ['x < 5'], True]
>>> [asked.often({"x": 4}, {"a": 3, "b": 1, "c": 5}), asked.often({"x": None}, {"a": 3, "b": 0, "c": 5}), list(asked.places()), asked[(0, 0)] == a - b]
[2, 10, [(), (0,), (0, 0), (0, 0, 0), (0, 0, 1), (1,), (1, 0), (1, 0, 0)], True]
>>> [str(asked.put((0,), Empty())), str((a - b).filled({"b": a - b})), (a - b).is_plain, asked.is_plain]
['( empty + ( 2 * ( c unless has ( a & b ) ) ) )', '( a - ( a - b ) )', True, False]
>>> [Below("x", 5).truth({"x": None}), (~Below("x", 5) | Missing("x")).truth({"x": None}), str(~(Below("x", 5) & Has(a))), ~~Has(a) == Has(a)]
[None, True, 'not ( x < 5 and has a )', True]
>>> asked.often({"x": 4}, {"a": 1, "c": 1})
raises NoTable('b')
>>> from rowcounts.words import read_question, read_test
>>> [read_question("( a - ( 3 * b ) )") == a - b * 3, read_question(str(asked)) == asked, str(read_test("not has ( a + b )"))]
[True, True, 'not has ( a + b )']
>>> read_question("( a + b - c )")
raises BadText(0, 4)
>>> read_test("x < y")
raises BadText(0, 2)
>>> from rowcounts.bases import Base
>>> base = Base(("x",), a=Bag(((1,), 3), ((7,), 1)), b=Bag(((1,), 1), ((None,), 2)))
>>> [str((a - b)(base)), str((a % Below("x", 5))(base)), str((b // Below("x", 5))(base)), str((a // Has(b))(base)), list(base.rows())]
['2 of 1, 1 of 7', '3 of 1', '2 of null', '1 of 7', [(1,), (7,), (None,)]]
>>> [base.numbers((1,)), base.values_of((7,)), base.names, str(base.only((1,))["b"]), str(base.filled({"c": a & b})["c"])]
[{'a': 3, 'b': 1}, {'x': 7}, ('a', 'b'), '1 of 1', '1 of 1']
>>> (a + c)(base)
raises NoTable('c')
>>> from rowcounts.forms import Bound, is_multiple
>>> more, less = Bound((1, -1)), Bound((-1, 1), True)
>>> [str(more), str(~more) == str(less), more((2, 2)), less([2, 2]), str(more + less), (more + less).is_false, str(2 * more + Bound((0, 1))), Bound.read("1 -1 >= 0") == more]
['1 -1 >= 0', True, True, False, '0 0 > 0', True, '2 -1 >= 0', True]
>>> [is_multiple((2, -4), (3, -6)), is_multiple((2, -4), (-1, 2)), is_multiple((0, 0), (0, 0)), is_multiple((0, 1), (0, 0))]
[True, False, True, False]
>>> Bound.read("1 1 > 1")
raises BadText(0, 3)
>>> from rowcounts.branches import Branch, Open, form_of
>>> plain = Branch(("a", "b"))
>>> [form_of(a + b * 2, {}, plain), form_of(a - b, {}, plain) == Open((1, -1)), form_of(a - b, {}, plain + more), form_of(a - b, {}, plain + less), form_of(a % Has(b), {}, plain) == Open((0, -1))]
[(1, 2), True, (1, -1), (0, 0), True]
>>> [plain.side((1, -1)), (plain + more).side((2, -2)), (plain + more).side((-1, 1)), (plain + Bound((0, 1), True)).stands((0, 3)), plain.stands((0, 0)), len(plain + more), plain((1, -1))]
[None, True, False, True, False, 3, False]
>>> from rowcounts.weights import Clash, Point, settled, shows_clash, shows_point
>>> [shows_clash([more, less], 2, settled([more, less], 2)), bool(settled([more], 2)), shows_clash([more, less, Bound((1, 0))], 2, Clash((3, 3, 0))), shows_clash([more], 2, Clash((0,))), shows_point([more, ~less], 2, Point((-5, -7)))]
[True, True, True, False, True]
>>> from rowcounts.judge import Agreed, Leaf, Parted, Shown, Split, alike, never_more
>>> from rowcounts.look_judge import shows_agreed, shows_parted, shows_shown
>>> from rowcounts.rules import Apart, Within
>>> tree = Split((1, -1), Leaf((0, 1, 0, 1)), Leaf((1, 0, 0, 1)))
>>> [shows_shown(a, a + b, Shown((Leaf((0, 1, 1)),))), shows_shown(a - b, a, Shown((tree,))), shows_shown(a, c, Shown((Leaf((0, 0, 0, 1, 1, 1)),)), Within(a, b), Within(b, c))]
[True, True, True]
>>> [bool(alike((a - b) - c, a - (b + c))), bool(never_more(a & (b + c), (a & b) + (a & c))), bool(never_more((a & b) + (a & c), a & (b + c))), bool(alike(a - (a - b), a & b))]
[True, True, False, True]
>>> [shows_parted(a - b, a // Has(b), Parted((), {"a": 2, "b": 1})), shows_parted(a - b, a // Has(b), Parted((), {"a": 1, "b": 1})), bool(never_more(a, a - b, Apart(a, b)))]
[True, False, True]
>>> found = never_more(a // Below("x", 5), a % ~Below("x", 5))
>>> [bool(found), found.row, found.counts["a"] > 0, bool(alike(a % Below("x", 5) + a // Below("x", 5), a))]
[False, (('x', None),), True, True]
>>> never_more(a, b, Within(a, b), (a, b))
raises BadRule(1)
>>> from rowcounts.kinds import Kind, kinds
>>> from rowcounts.truths import Equals, Missing
>>> [(kind.row, kind.truths) for kind in kinds(Below("x", 5))]
[((('x', 4),), (True,)), ((('x', 5),), (False,)), ((('x', None),), (None,))]
>>> [kind.truths for kind in kinds(Equals("x", 5), Below("x", 5))]
[(True, False), (False, True), (False, False), (None, None)]
>>> [kinds() == (Kind((), ()),), kinds(Missing("x"))[1].row, len(kinds(Below("x", 5), Missing("y")))]
[True, (('x', None),), 6]
>>> from rowcounts.least import least_parted, shows_least
>>> spread = (a & b) + (a & c)
>>> [least_parted(spread, a & (b + c)).counts, least_parted(a & (b + c), spread), least_parted(a - b, a // Has(b)).counts]
[{'a': 1, 'b': 1, 'c': 1}, None, {'a': 2, 'b': 1}]
>>> low = Below("x", 5)
>>> least_parted(a // low, a % ~low) == Parted((("x", None),), {"a": 1})
True
>>> [least_parted(a, b, Within(a, b)), shows_least(a, b, Parted((), {"a": 1, "b": 0})), shows_least(a, b, Parted((), {"a": 2, "b": 1}))]
[None, True, False]
>>> least_parted(a % Has(b), (b + b) * 9)
raises TooMany('counts', 12)
>>> from rowcounts.hangs import gain, harms, helps, loss, never_any, plays_part, same_rows
>>> [helps(a - b, "a"), helps(a - b, "b"), harms(a - b, "b"), plays_part((a - a) + b, "a"), helps(a % Has(a - b), "a")]
[True, False, True, False, True]
>>> [gain(a - b, "a"), gain(a - b, "b"), loss(a - b, "b"), gain(a + a - b, "a"), gain(a % Has(a - b), "a"), gain((a + a) * 9, "a")]
[1, 0, 1, 2, None, None]
>>> [never_any((a & b) - a), same_rows(a + b, a | b), same_rows(a - b, a // Has(b))]
[True, True, False]
>>> helps(a - b, "c")
raises NoTable('c')
>>> from rowcounts.shortest import explains, shortest
>>> [str(shortest(a - (a - b))), str(shortest(a + b - b)), str(shortest((a & b) + (a | b))), str(shortest((a & b) - a)), shortest(a * 3 - b)]
['( a & b )', 'a', '( a + b )', 'empty', None]
>>> [str(explains([({"a": 2, "b": 1}, 1), ({"a": 1, "b": 2}, 0)])), explains([({"a": 1}, 9)]), str(explains([]))]
['( a - b )', None, 'empty']
>>> from rowcounts.rules import Alike, Inside
>>> base = Base(("x",), a=Bag(((1,), 2), ((3,), 1)), b=Bag(((1,), 1)))
>>> [Within(b, a)(base), Within(a, b).broken_at(base), Inside(a, b).broken_at(base), Apart(a, b).broken_at(base), len(Alike(a, b).pairs)]
[True, (1,), (3,), (1,), 2]
>>> from rowcounts.books import Book
>>> chain = Book(Within(a, b), Within(b, c), Within(a, c))
>>> [chain.needless(), len(chain.bare()), len(chain[:2].follows(chain[2])), chain[:1].first_broken(base)]
[(2,), 2, 1, (0, (1,))]
>>> [len(Book(Apart(a, b)).follows(Alike(a, a - b))), isinstance(Book(Inside(a, b)).follows(Within(a, b)), Parted), Inside(a, b).pairs[0] == (a // Has(b), Empty())]
[2, True, True]
>>> from rowcounts.plans import Plan
>>> from rowcounts.rewrites import Rewrite
>>> x, y, z = Table("x"), Table("y"), Table("z")
>>> twice, wrong, chained = Rewrite(x - (x - y), x & y), Rewrite(x - y, x // Has(y)), Rewrite((x - y) - z, x - (y + z))
>>> [twice.is_right, wrong.is_right, chained.is_right, bool(wrong.verdict), chained.back().is_right]
[True, False, True, False, True]
>>> deep = c + ((a & b) - ((a & b) - c))
>>> [list(twice.places(deep)), twice.fits(deep, (1,)) == {"x": a & b, "y": c}, twice.fits(deep, ()), twice.done(deep, (1,)) == c + ((a & b) & c)]
[[(1,)], True, None, True]
>>> plan = Plan(deep, twice, chained)
>>> [list(plan.each_step()), plan.shrink(), plan.size, plan.log, plan.question(base.with_bag("c", Bag())) == deep(base.with_bag("c", Bag()))]
[[(0, (1,))], 1, 3, ('do 0 1',), True]
>>> plan.question = c
raises Unlike
>>> plan.question = ((a & b) & c) + c
>>> [plan.deeds, plan.undo(), plan.undo(), plan.question == deep, plan.deeds]
[2, 'turn', 'shrink', True, 0]
>>> Rewrite(x, x + (y - y))
raises BadRewrite('blank')
>>> from rowcounts.rooms import pieces, room, shows_room, told_apart
>>> [[piece.form for piece in pieces(one)] for one in (a - b, a & b, a + b, (a - b) + (b - a))]
[[(0, 0), (1, -1)], [(0, 1), (1, 0)], [(1, 1)], [(-1, 1), (1, -1)]]
>>> [room(one).rank for one in (a - b, a & b, a + b, (a - b) + (b - a), a * 3 - (a & b) * 3, Empty())]
[1, 2, 1, 1, 1, 0]
>>> [told_apart(a - b, {"a": 5, "b": 3}, {"a": 4, "b": 2}), told_apart(a & b, {"a": 1, "b": 0}, {"a": 0, "b": 1}) is None]
[None, False]
>>> shows_room(a - b, room(a - b))
True
>>> from rowcounts.stores import Store
>>> store = Store(Base(("x",), a=Bag(((1,), 2)), b=Bag(((1,), 3), ((4,), 1))), Within(a, b))
>>> store.watch("rest", b - a)
>>> store.put("a", (4,))
>>> [str(store.watched("rest")), list(store.changes()), store.deeds, str(store.answer(a & b))]
['1 of 1', [('rest', (4,), -1)], 2, '2 of 1, 1 of 4']
>>> store.put("a", (4,))
raises Breaks
>>> store.take("b", (1,), 2)
raises Breaks
>>> [store.move((1,), "b", "b"), store.undo(), store.undo(), str(store["a"]), str(store.watched("rest")), store.tried(lambda same: same.take("a", (1,), 2)), len(store["a"])]
[None, 'move', 'put', '2 of 1', '1 of 1, 1 of 4', None, 1]
>>> store.take("a", (9,))
raises NoRow((9,))
>>> from rowcounts.streams import joined, stream
>>> base = store.base
>>> [list(stream(b - a, base)), list(stream(a + b, base, (1,))), list(joined(stream(a, base), stream(b, base), [((2,), 7)]))]
[[((1,), 1), ((4,), 1)], [((4,), 1)], [((1,), 5), ((2,), 7), ((4,), 1)]]
>>> list(joined([((2,), 1), ((1,), 1)]))
raises BadBag(0)
>>> from rowcounts.reader import read_base, read_plan, read_store
>>> from rowcounts.texts import base_text, plan_text, store_text
>>> [base_text(base), read_base(base_text(base)) == base]
['base x\ntable a 2 of 1\ntable b 3 of 1, 1 of 4', True]
>>> read_base("base x\ntable a 2 of 1 4")
raises BadText(1, 5)
>>> read_store("base x\ntable a 2 of 1\ntable b none\nrule within a ; b")
raises Breaks
>>> from rowcounts.desk import Desk
>>> desk = Desk(read_store("base x\ntable a 2 of 1\ntable b 3 of 1, 1 of 4\nrule within a ; b"))
>>> desk.run("put 1 of 4 in a", "put 1 of 4 in a", "ask ( b - a )", "more a ; b", "more b ; a", "alike ( a - ( a - b ) ) ; a", "undo", "gain a ( ( a + a ) - b )")
['ok', 'broken within a ; b', '1 of 1', 'never', 'least a 0 b 1', 'alike', 'put', '2']
>>> [desk("room ( a - b )"), desk("short ( a - ( a - b ) )"), desk("follows inside a ; b"), desk.deeds]
['1', '( a & b )', 'yes', 0]
>>> desk.say("put 1 of 4 in")
raises BadLine(5)
"""


def example_lines(text):
    """Pairs of a line that is done and the answer that is shown for it, or None."""
    shown = text.strip().split("\n")
    for at, line in enumerate(shown):
        if line.startswith(">>> "):
            after = shown[at + 1] if at + 1 < len(shown) else ">>> "
            yield line[4:], None if after.startswith(">>> ") else after


def answer_of(line, names):
    """What a line answers, as the document shows it."""
    try:
        if line.startswith("plan.question = "):
            exec(line, names)
        return repr(eval(line, names))
    except errors.CountError as error:
        if isinstance(error, (errors.Unlike, errors.Breaks)):
            # The document does not show the papers and rules that these errors have.
            return f"raises {type(error).__name__}"
        fields = ", ".join(repr(field) for field in vars(error).values())
        return f"raises {type(error).__name__}({fields})"


class ExamplesTest(unittest.TestCase):

    def test_examples(self):
        names = {}
        for line, answer in example_lines(EXAMPLES):
            with self.subTest(line=line):
                if answer is None:
                    exec(line, names)
                else:
                    self.assertEqual(answer_of(line, names), answer)


if __name__ == "__main__":
    unittest.main()
