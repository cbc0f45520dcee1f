"""Some answers must not need many steps; calls of functions are counted, as a clock would hang on the machine."""

import sys
import unittest

from anything import Case
from rowcounts.desk import Desk
from rowcounts.hangs import gain, loss
from rowcounts.judge import Agreed, alike
from rowcounts.look_judge import shows_agreed
from rowcounts.reader import read_store
from rowcounts.shortest import explains, shortest
from rowcounts.words import read_question

CHOSEN = "( ( ( a - b ) + ( b - c ) ) where ( ( x = 1 or y < 2 ) or z null ) )"

GREAT = "( ( ( ( a - b ) | ( b - c ) ) & ( c | a ) ) where ( ( x = 1 or y < 2 ) or z null ) )"

SLOPES = [
    (gain, CHOSEN, "a"), (gain, "( ( ( a | b ) - ( b | c ) ) where ( x = 1 or y < 2 ) )", "a"),
    (gain, "( ( a - b ) | ( ( b - c ) & ( c | a ) ) )", "a"), (loss, "( ( ( a - b ) & ( b - c ) ) | ( c & a ) )", "b"),
    (gain, "( ( ( a - b ) | ( b - c ) ) | ( c - a ) )", "b"),
]

STORE = """base col x y
table a 3 of 0 5 null, 1 of 0 6 null
table b 9 of 0 5 null, 9 of 0 6 null
table zz none
rule within ( ( a - b ) where x < 6 ) ; ( b + b )
rule apart zz ; ( a where y = 1 )"""

LINES = {
    "alike ( a unless has zz ) ; ( a - zz )": ("unlike", 700),
    "more ( a - b ) ; a": ("never", 900),
    "follows apart ( a - b ) ; ( b - a )": ("yes", 1400),
    "alike ( a where y = 1 ) ; ( a unless y = 1 )": ("unlike", 600),
    "more ( a where x < 5 ) ; ( b - a )": ("least x 4 y 0 a 1 b 1 zz 0", 700),
    "more ( a where y = 1 ) ; ( b unless x null )": ("least x 6 y 1 a 1 b 0 zz 0", 700),
    "short ( a - b )": ("( a - b )", 200),
    "short ( a unless has b )": ("none", 500),
    "gain a ( a - b )": ("1", 250),
}


def counted(work):
    """What a function answers, and how many calls of functions it needs."""
    many = 0

    def count(frame, event, argument):
        nonlocal many
        many += event == "call"
    before = sys.getprofile()
    sys.setprofile(count)
    try:
        found = work()
    finally:
        sys.setprofile(before)
    return found, many


class StepsTest(Case):

    def check(self, work, answer, most):
        for _ in range(3):
            found, many = counted(work)
            self.same(found, answer)
            self.assertLess(many, most)

    def test_explains(self):
        self.check(lambda: explains([({"a": 1, "b": 0, "c": 2}, 77)]), None, 300)
        self.check(lambda: str(explains([({"a": 9, "b": 5, "c": 1}, 3), ({"a": 9, "b": 1, "c": 5}, 3)])), "( ( a - b ) - c )", 700)

    def test_shortest(self):
        for text in ("( ( a + b ) + ( b - c ) )", CHOSEN, GREAT):
            question = read_question(text)
            self.check(lambda question=question: shortest(question), None, 600)

    def test_gain_and_loss(self):
        for slope, text, name in SLOPES:
            question = read_question(text)
            self.check(lambda question=question, name=name, slope=slope: slope(question, name), 1, 2500)

    def test_lines_of_desks(self):
        """On desks that were not asked them before."""
        for line, (answer, most) in LINES.items():
            desk = Desk(read_store(STORE))
            desk("watch w ( a - b )")
            found, many = counted(lambda desk=desk, line=line: desk(line))
            self.same(found, answer)
            self.assertLess(many, most, line)

    def test_alike(self):
        one = read_question("( ( ( a - b ) & ( b - c ) ) | ( c & a ) )")
        other = read_question("( ( c & a ) | ( ( b - c ) & ( a - b ) ) )")
        found, many = counted(lambda: alike(one, other))
        self.same([type(found), shows_agreed(one, other, found), many < 5000], [Agreed, True, True])


if __name__ == "__main__":
    unittest.main()
