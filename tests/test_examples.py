"""The examples of the document, with the answers that are shown there."""

import unittest

from rowcounts import errors

EXAMPLES = """
>>> from rowcounts.bags import Bag
>>> bag, more = Bag(((3, None), 2), ((1, 4), 1), ((3, None), 1)), Bag.of([(1, 4), (1, 4), (2, 2)])
>>> [str(bag), bag.width, bag.whole, bag.often((3, None)), (1, None) in bag, len(bag), bag[:1]]
['1 of 1 4, 3 of 3 null', 2, 4, 3, False, 2, (((1, 4), 1),)]
>>> [str(bag + more), str(bag & more), str(bag | more), str(more - bag), str(2 * more), bag & more <= bag, Bag.read("2 of 5") == Bag(((5,), 2))]
['3 of 1 4, 1 of 2 2, 3 of 3 null', '1 of 1 4', '2 of 1 4, 1 of 2 2, 3 of 3 null', '1 of 1 4, 1 of 2 2', '4 of 1 4, 2 of 2 2', True, True]
>>> Bag(((1,), 1), ((1, 2), 1))
raises BadBag(1)
>>> Bag.read("1 of 5, 1 of 4")
raises BadText(0, 5)
>>> from rowcounts.questions import Empty, Table
>>> from rowcounts.truths import Below, Has, Missing
>>> a, b, c = Table("a"), Table("b"), Table("c")
>>> asked = (a - b) % Below("x", 5) + (c // Has(a & b)) * 2
>>> [str(asked), asked.size, asked.names, asked.columns, [str(one) for one in asked.conditions], "b" in asked]
['( ( ( a - b ) where x < 5 ) + ( 2 * ( c unless has ( a & b ) ) ) )', 7, ('a', 'b', 'c'), ('x',), ['x < 5'], True]
>>> [asked.often({"x": 4}, {"a": 3, "b": 1, "c": 5}), asked.often({"x": None}, {"a": 3, "b": 0, "c": 5}), list(asked.places()), asked[(0, 0)] == a - b]
[2, 10, [(), (0,), (0, 0), (0, 0, 0), (0, 0, 1), (1,), (1, 0), (1, 0, 0)], True]
>>> [str(asked.put((0,), Empty())), str((a - b).filled({"b": a - b})), (a - b).is_plain, asked.is_plain]
['( empty + ( 2 * ( c unless has ( a & b ) ) ) )', '( a - ( a - b ) )', True, False]
>>> [Below("x", 5).truth({"x": None}), (~Below("x", 5) | Missing("x")).truth({"x": None}), str(~(Below("x", 5) & Has(a))), ~~Has(a) == Has(a)]
[None, True, 'not ( x < 5 and has a )', True]
>>> asked.often({"x": 4}, {"a": 1, "c": 1})
raises NoTable('b')
>>> from rowcounts.words import read_question, read_test
>>> [read_question("( a - ( 3 * b ) )") == a - b * 3, read_question(str(asked)) == asked, str(read_test("not has ( a + b )"))]
[True, True, 'not has ( a + b )']
>>> read_question("( a + b - c )")
raises BadText(0, 4)
>>> read_test("x < y")
raises BadText(0, 2)
>>> from rowcounts.bases import Base
>>> base = Base(("x",), a=Bag(((1,), 3), ((7,), 1)), b=Bag(((1,), 1), ((None,), 2)))
>>> [str((a - b)(base)), str((a % Below("x", 5))(base)), str((b // Below("x", 5))(base)), str((a // Has(b))(base)), list(base.rows())]
['2 of 1, 1 of 7', '3 of 1', '2 of null', '1 of 7', [(1,), (7,), (None,)]]
>>> [base.numbers((1,)), base.values_of((7,)), base.names, str(base.only((1,))["b"]), str(base.filled({"c": a & b})["c"])]
[{'a': 3, 'b': 1}, {'x': 7}, ('a', 'b'), '1 of 1', '1 of 1']
>>> (a + c)(base)
raises NoTable('c')
>>> from rowcounts.forms import Bound, is_multiple
>>> more, less = Bound((1, -1)), Bound((-1, 1), True)
>>> [str(more), str(~more) == str(less), more((2, 2)), less([2, 2]), str(more + less), (more + less).is_false, str(2 * more + Bound((0, 1))), Bound.read("1 -1 >= 0") == more]
['1 -1 >= 0', True, True, False, '0 0 > 0', True, '2 -1 >= 0', True]
>>> [is_multiple((2, -4), (3, -6)), is_multiple((2, -4), (-1, 2)), is_multiple((0, 0), (0, 0)), is_multiple((0, 1), (0, 0))]
[True, False, True, False]
>>> Bound.read("1 1 > 1")
raises BadText(0, 3)
>>> from rowcounts.branches import Branch, Open, form_of
>>> plain = Branch(("a", "b"))
>>> [form_of(a + b * 2, {}, plain), form_of(a - b, {}, plain) == Open((1, -1)), form_of(a - b, {}, plain + more), form_of(a - b, {}, plain + less), form_of(a % Has(b), {}, plain) == Open((0, -1))]
[(1, 2), True, (1, -1), (0, 0), True]
>>> [plain.side((1, -1)), (plain + more).side((2, -2)), (plain + more).side((-1, 1)), (plain + Bound((0, 1), True)).stands((0, 3)), plain.stands((0, 0)), len(plain + more), plain((1, -1))]
[None, True, False, True, False, 3, False]
"""


def example_lines(text):
    """Pairs of a line that is done and the answer that is shown for it, or None."""
    shown = text.strip().split("\n")
    for at, line in enumerate(shown):
        if line.startswith(">>> "):
            after = shown[at + 1] if at + 1 < len(shown) else ">>> "
            yield line[4:], None if after.startswith(">>> ") else after


def answer_of(line, names):
    """What a line answers, as the document shows it."""
    try:
        return repr(eval(line, names))
    except errors.CountError as error:
        fields = ", ".join(repr(field) for field in vars(error).values())
        return f"raises {type(error).__name__}({fields})"


class ExamplesTest(unittest.TestCase):

    def test_examples(self):
        names = {}
        for line, answer in example_lines(EXAMPLES):
            with self.subTest(line=line):
                if answer is None:
                    exec(line, names)
                else:
                    self.assertEqual(answer_of(line, names), answer)


if __name__ == "__main__":
    unittest.main()
