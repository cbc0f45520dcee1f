"""Promises [2], [12], [13] and plans.py."""

import random
import unittest

from anything import Case, any_values, repr_of
from rowcounts.errors import BadNumber, BadPlan, CountError, NoDeed, NoFit, NoPlace, TooMany, Unlike
from rowcounts.judge import Agreed, alike
from rowcounts.look_judge import shows_agreed, shows_parted
from rowcounts.plans import Plan
from rowcounts.questions import Empty, Question, Table
from rowcounts.rewrites import Rewrite
from rowcounts.truths import Below, Has
from test_rewrites import RIGHT, WRONG
from test_rules import big
from trees import made_of, size_of, some_question

A, B, C = Table("a"), Table("b"), Table("c")

X, Y, Z = Table("x"), Table("y"), Table("z")

TWICE, CHAINED, TURNED, SAME, LONGER = RIGHT[0], RIGHT[1], RIGHT[2], RIGHT[3], RIGHT[5]

DEEP = C + ((A & B) - ((A & B) - C))


def place_text(place):
    return "".join(map(str, place)) or "-"


def shown(plan):
    """All that a plan tells."""
    return [str(plan.begun), str(plan.question), [str(one) for one in plan.rewrites], plan.size, plan.log, plan.deeds,
            [repr_of(paper) for paper in plan.papers], list(plan.each_step())]


class OwnPlan:
    """A plan as lists of all that it was."""

    def __init__(self, question, rewrites):
        self.rewrites = rewrites
        self.past = [(question, (), (), None)]

    def steps(self):
        question = self.past[-1][0]
        found = []
        for at, rewrite in enumerate(self.rewrites):
            for place in question.places():
                blanks = rewrite.fits(question, place)
                if blanks is not None:
                    part = size_of_filled(rewrite.replacement, blanks)
                    if question.size - question[place].size + part <= 40:
                        found.append((at, place))
        return found

    def behind(self, question, at, place):
        rewrite = self.rewrites[at]
        return question.put(place, rewrite.replacement.filled(rewrite.fits(question, place)))

    def put(self, word, question, texts, papers):
        now = self.past[-1]
        self.past.append((question, (*now[1], *texts), (*now[2], *papers), word))

    def shrink(self):
        self.past.append(self.past[-1])
        texts, papers = [], []
        question = self.past[-1][0]
        while True:
            self.past[-1] = (question, (), (), None)
            less = [step for step in self.steps() if self.behind(question, *step).size < question.size]
            if not less:
                break
            at, place = less[0]
            question = self.behind(question, at, place)
            texts.append(f"do {at} {place_text(place)}")
            papers.append(alike(self.rewrites[at].pattern, self.rewrites[at].replacement))
        self.past.pop()
        if texts:
            self.put("shrink", question, texts, papers)
        return len(texts)

    def shown(self):
        question, texts, papers, _ = self.past[-1]
        return [str(self.past[0][0]), str(question), [str(one) for one in self.rewrites], question.size, texts,
                len(self.past) - 1, [repr_of(paper) for paper in papers], self.steps()]


def size_of_filled(question, blanks):
    """The size of a question with its names filled, reckoned from its parts."""
    if isinstance(question, Table):
        return blanks[question.name].size
    return question.filled(blanks).size if question.size else 0


class MakingTest(Case):

    def test_properties(self):
        plan = Plan(DEEP, TWICE, CHAINED)
        self.assertEqual([plan.question, plan.begun, plan.rewrites, plan.size, plan.papers, plan.log, plan.deeds],
                         [DEEP, DEEP, (TWICE, CHAINED), 5, (), (), 0])
        self.assertEqual([Plan(A).rewrites, list(Plan(A).each_step()), Plan(question=A).shrink()], [(), [], 0])

    def test_errors(self):
        for value in any_values():
            if not isinstance(value, Question):
                self.refused(BadPlan("question"), Plan, value)
                self.refused(BadPlan("question"), Plan, value, value)
            if not isinstance(value, Rewrite):
                self.refused(BadPlan(0), Plan, A, value)
                self.refused(BadPlan(2), Plan, A, TWICE, WRONG[0], value, value)
                self.refused(BadPlan(12), Plan, A, *[WRONG[0]] * 12, value)

    def test_sizes_and_wrong_rewrites(self):
        self.same(len(Plan(A, *[TWICE] * 12).rewrites), 12)
        self.refused(TooMany("rewrites", 12), Plan, A, *[TWICE] * 12, WRONG[0])
        for at, wrong in enumerate(WRONG):
            paper = alike(wrong.pattern, wrong.replacement)
            self.refused(Unlike(paper), Plan, A, TWICE, wrong, WRONG[at - 1])
        self.same(Plan(big(40), *RIGHT[:12]).size, 40)


class TurningTest(Case):

    def test_turn_and_assignment(self):
        for assign in (True, False):
            plan = Plan(A - (A - B))
            if assign:
                plan.question = A & B
            else:
                self.same(plan.turn(A & B), None)
            self.assertEqual([plan.question, plan.begun, plan.log, plan.size, plan.deeds, len(plan.papers)],
                             [A & B, A - (A - B), ("turn ( a & b )",), 1, 1, 1])
            self.same(shows_agreed(A - (A - B), A & B, plan.papers[0]), True)
            self.assertEqual(plan.papers[0], alike(A - (A - B), A & B))
        plan.turn(question=B & A)
        plan.turn(B & A)
        self.same([plan.log[1:], plan.deeds], [("turn ( b & a )", "turn ( b & a )"), 3])
        self.assertEqual(plan.papers[1], alike(A & B, B & A))

    def refused_both_ways(self, error, plan, value):
        def assign():
            plan.question = value
        before = shown(plan)
        self.refused(error, plan.turn, value)
        self.refused(error, assign)
        self.same(shown(plan), before)

    def test_errors(self):
        plan = Plan(DEEP, TWICE)
        plan.do(0, (1,))
        for value in any_values():
            if not isinstance(value, Question):
                self.refused_both_ways(BadPlan("question"), plan, value)
        now = plan.question
        for other in (C, now + C, now - C, Empty()):
            paper = alike(now, other)
            self.same(shows_parted(now, other, paper) or shows_parted(other, now, paper), True)
            self.refused_both_ways(Unlike(paper), plan, other)
        self.refused_both_ways(TooMany("tables", 4), plan, Table("d") + Table("e"))
        self.refused_both_ways(TooMany("operators", 10), plan, big(8))
        self.refused_both_ways(TooMany("operators", 10), Plan(big(6)), big(5))
        tests = [Below("x", n) for n in range(4)]
        self.refused_both_ways(TooMany("conditions", 3), Plan(A % tests[0] % tests[1]), A % tests[2] % tests[3])
        plan = Plan(big(40))
        self.refused_both_ways(TooMany("operators", 10), plan, big(40))


class DoingTest(Case):

    def test_do(self):
        plan = Plan(DEEP, TWICE, TURNED)
        self.same([plan.do(1, ()), plan.do(place=(0,), at=0), plan.log], [None, None, ("do 1 -", "do 0 0")])
        self.assertEqual([plan.question, plan.begun, plan.deeds, plan.papers],
                         [((A & B) & C) + C, DEEP, 2, (TURNED.verdict, TWICE.verdict)])
        plan = Plan((A + ((B + C) + A)) - B, TURNED)
        plan.do(0, (0, 1, 0))
        self.assertEqual([plan.log, plan.question], [("do 0 010",), (A + ((C + B) + A)) - B])

    def test_errors_in_order(self):
        plan = Plan(DEEP, TWICE, LONGER)
        plan.do(0, (1,))
        before = shown(plan)
        for value in any_values():
            if value not in (0, 1) or type(value) is bool:
                self.refused(BadPlan("at"), plan.do, value, (1,))
                self.refused(BadPlan("at"), plan.do, place=value, at=value)
            if value not in ((), (0,), (1,)) or value == (True,) and type(value[0]) is bool:
                self.refused(NoPlace(value), plan.do, 0, value)
        self.refused(NoFit((1,)), plan.do, 0, (1,))
        self.refused(NoPlace((0, 0)), plan.do, 1, (0, 0))
        self.same(shown(plan), before)
        great = Plan(big(40), TWICE, LONGER, SAME)
        self.refused(NoFit((0, 0)), great.do, 2, (0, 0))
        self.refused(TooMany("size", 40), great.do, 1, (0, 0))
        self.same([great.deeds, list(great.each_step())], [0, []])
        self.refused(BadPlan("at"), Plan(A).do, 0, ())

    def test_each_step(self):
        plan = Plan(DEEP, TURNED, TWICE, SAME)
        self.same([list(plan.each_step()), list(Plan(A - B, TURNED).each_step())], [[(0, ()), (1, (1,))], []])
        found = []
        for step in plan.each_step():
            found.append(step)
            plan.turn(plan.question)
            plan.undo()
            plan.shrink()
        self.same([found, plan.log, list(plan.each_step())], [[(0, ()), (1, (1,))], ("do 1 1",), [(0, ())]])

    def test_each_step_of_the_question_at_the_first_item(self):
        plan = Plan(A + (B + C), TURNED, LONGER)
        steps = plan.each_step()
        plan.turn(B + C + A)
        self.same(next(steps), (0, ()))
        plan.turn((B + C) + A + Empty())
        expected = [(0, (0,)), (1, ()), (1, (0,)), (1, (0, 0)), (1, (0, 1)), (1, (1,))]
        self.same(list(steps), expected)

    def test_steps_at_the_greatest_size(self):
        plan = Plan(big(38) - A, LONGER, TURNED)
        self.same([plan.size, len(list(plan.each_step()))], [39, 79 + 38])
        plan.do(0, (1,))
        self.same([plan.size, {at for at, _ in plan.each_step()}, len(list(plan.each_step()))], [40, {1}, 39])

    def test_shrink(self):
        plan = Plan(DEEP, TURNED, TWICE)
        self.same([plan.shrink(), plan.shrink(), plan.deeds, plan.log], [1, 0, 1, ("do 1 1",)])
        nested = ((A & A) & (A & A)) - (((A & A) & (A & A)) - B)
        plan = Plan(nested, SAME, TWICE)
        self.same([plan.shrink(), plan.deeds, plan.log, str(plan.question), plan.undo(), plan.log, plan.deeds],
                  [5, 1, ("do 0 0", "do 0 0", "do 0 10", "do 0 10", "do 1 -"), "( a & b )", "shrink", (), 0])
        self.same([plan.size, Plan(A, SAME).shrink()], [8, 0])

    def test_shrink_reaches_the_greatest_size_behind_no_step(self):
        """A step that would make the question too great is none, even if it stands first."""
        fewer = Rewrite((X - Y) - Y, X - Y * 2)
        plan = Plan(((A - big(36)) - big(0)) + (B & B), RIGHT[6].back(), fewer, LONGER, SAME)
        self.same([plan.size, plan.shrink(), plan.log], [40, 1, ("do 3 1",)])


class BackTest(Case):

    def test_undo(self):
        plan = Plan(DEEP, TWICE, TURNED)
        told = [shown(plan)]
        plan.do(1, ())
        told.append(shown(plan))
        plan.turn(C + ((A & B) & C))
        told.append(shown(plan))
        plan.do(1, ())
        told.append(shown(plan))
        self.same(told[0] == told[1], False)
        for word in ("do", "turn", "do"):
            told.pop()
            self.same([plan.undo(), shown(plan)], [word, told[-1]])
        self.refused(NoDeed(), plan.undo)
        self.same(shown(plan), told[0])
        self.refused(NoDeed(), Plan(A).undo)

    def test_drawn_deeds(self):
        dice = random.Random(113)
        words = {}
        for _ in range(40):
            question = made_of(some_question(dice, 3, "abc"))
            rewrites = dice.sample(RIGHT, 4)
            plan, own = Plan(question, *rewrites), OwnPlan(question, rewrites)
            for _ in range(12):
                self.same(shown(plan), own.shown())
                word = self.some_deed(dice, plan, own)
                words[word] = words.get(word, 0) + 1
                self.check_same_question(dice, plan)
            self.same(shown(plan), own.shown())
        self.assertEqual(sorted(words), ["do", "none", "shrink", "turn", "undo"])
        self.assertGreater(min(words.values()), 20)

    def some_deed(self, dice, plan, own):
        word = dice.choice(["do", "do", "do", "turn", "shrink", "undo"])
        now, steps = plan.question, own.steps()
        if word == "undo":
            if len(own.past) == 1:
                self.refused(NoDeed(), plan.undo)
                return "none"
            self.same(plan.undo(), own.past.pop()[3])
        elif word == "do" and steps and now.size < 25:
            at, place = dice.choice(steps)
            plan.do(at, place)
            rewrite = own.rewrites[at]
            own.put("do", own.behind(now, at, place), [f"do {at} {place_text(place)}"],
                    [alike(rewrite.pattern, rewrite.replacement)])
        elif word == "shrink":
            self.same(plan.shrink(), own.shrink())
        elif word == "turn" and now.size <= 4:
            other = dice.choice([now + Empty(), now * 1, now | (now - now) if now.size < 2 else now])
            plan.turn(other)
            own.put("turn", other, [f"turn {other}"], [alike(now, other)])
        else:
            return "none"
        return word

    def check_same_question(self, dice, plan):
        for _ in range(3):
            values = {"x": dice.choice([None, 0, 1, 4, 5]), "y": dice.choice([None, 0, 1])}
            counts = {name: dice.choice([0, 0, 1, 2, 7]) for name in "abc"}
            self.same(plan.question.often(values, counts), plan.begun.often(values, counts))


class Stop(Exception):
    """An error of the test's own."""


class TrialTest(Case):

    def plan(self):
        plan = Plan(DEEP, TWICE, TURNED)
        plan.do(1, ())
        return plan

    def test_a_trial_that_ends_well(self):
        plan = self.plan()
        before = shown(plan)
        with plan.trial() as same:
            self.assertIs(same, plan)
            self.same(plan.shrink(), 1)
            plan.turn(plan.question)
            self.same([plan.deeds, plan.undo()], [3, "turn"])
        self.same(shown(plan), before)
        with plan.trial():
            pass
        self.same(shown(plan), before)

    def test_a_trial_that_ends_by_an_error(self):
        plan = self.plan()
        before = shown(plan)
        for error in (Stop("here"), NoDeed(), BadNumber(5)):
            with self.assertRaises(type(error)) as told:
                with plan.trial() as same:
                    same.shrink()
                    raise error
            self.assertIs(told.exception, error)
            self.same(shown(plan), before)
        with self.assertRaises(NoFit):
            with plan.trial() as same:
                same.shrink()
                same.do(0, ())
        self.same(shown(plan), before)

    def test_steps_back_beyond_the_beginning(self):
        plan = self.plan()
        before = shown(plan)
        with plan.trial():
            self.same([plan.undo(), plan.deeds], ["do", 0])
            self.assertEqual(plan.question, DEEP)
            self.refused(NoDeed(), plan.undo)
            plan.turn(DEEP)
            plan.shrink()
        self.same(shown(plan), before)
        self.same([plan.undo(), plan.deeds], ["do", 0])

    def test_trials_in_trials(self):
        plan = self.plan()
        first = shown(plan)
        with plan.trial():
            plan.shrink()
            second = shown(plan)
            with self.assertRaises(Stop):
                with plan.trial():
                    plan.undo()
                    plan.undo()
                    with plan.trial():
                        plan.turn(DEEP)
                    self.same(plan.deeds, 0)
                    raise Stop()
            self.same(shown(plan), second)
            with plan.trial():
                plan.turn(plan.question)
            self.same(shown(plan), second)
        self.same(shown(plan), first)

    def test_one_trial_taken_twice(self):
        plan = self.plan()
        first, trial = shown(plan), plan.trial()
        with trial:
            plan.shrink()
            second = shown(plan)
            with trial as same:
                same.undo()
            self.same(shown(plan), second)
        self.same(shown(plan), first)
        plan.undo()
        last = shown(plan)
        with trial:
            plan.shrink()
        self.same(shown(plan), last)

    def test_tried(self):
        plan = self.plan()
        before = shown(plan)
        self.same([plan.tried(lambda same: same.shrink()), plan.tried(work=lambda same: same is plan)], [1, True])
        self.same(shown(plan), before)
        self.refused(NoDeed(), plan.tried, lambda same: [same.undo(), same.undo()])
        self.same(shown(plan), before)

    def test_attempt(self):
        plan = self.plan()
        before = shown(plan)
        for error in (Stop("there"), NoDeed(), KeyError("x")):
            def work(same, raised=error):
                same.shrink()
                same.undo()
                same.undo()
                raise raised
            with self.assertRaises(type(error)) as told:
                plan.attempt(work)
            self.assertIs(told.exception, error)
            self.same(shown(plan), before)
        self.refused(NoDeed(), plan.attempt, lambda same: [same.undo(), same.undo()])
        self.same(shown(plan), before)
        self.same([plan.attempt(work=lambda same: same.shrink()), plan.deeds, plan.undo()], [1, 2, "shrink"])
        self.same([plan.attempt(lambda same: None), plan.attempt(lambda same: (same.undo(), same.deeds))], [None, ("do", 0)])
        with plan.trial():
            self.refused(NoDeed(), plan.attempt, lambda same: [same.turn(DEEP), same.undo(), same.undo()])
            self.same(plan.deeds, 0)


class TwinTest(Case):

    def test_twins_go_their_own_way(self):
        plan = Plan(DEEP, TWICE, TURNED)
        plan.do(1, ())
        plan.shrink()
        twin = plan.twin()
        self.same([twin == plan, twin is plan, shown(twin)], [True, False, shown(plan)])
        before = shown(plan)
        self.same([twin.undo(), twin.undo(), twin.deeds, shown(plan) == before], ["shrink", "do", 0, True])
        self.same([twin == plan, plan.undo(), twin == plan, plan.undo(), twin == plan], [False, "shrink", False, "do", True])
        with plan.trial():
            twin.turn(DEEP)
        self.same([twin.deeds, plan.deeds], [1, 0])

    def test_equality(self):
        def turned(plan, *questions):
            for question in questions:
                plan.turn(question)
            return plan

        def done(plan, *steps):
            for step in steps:
                plan.do(*step)
            return plan
        both = A + B
        plans = [Plan(both), Plan(both, TURNED), Plan(both, TURNED, TWICE), Plan(B + A), turned(Plan(both), B + A),
                 turned(Plan(both), both), turned(Plan(both), B + A, both), done(Plan(both, TURNED), (0, ())),
                 turned(Plan(both, TURNED), B + A), done(Plan(both, TURNED), (0, ()), (0, ()))]
        for at, one in enumerate(plans):
            for place, other in enumerate(plans):
                self.same([one == other, one != other], [at == place, at != place])
            for value in any_values():
                if not isinstance(value, Plan):
                    self.same([one == value, one != value], [False, True])
        one, other = Plan(both, TURNED, SAME), Plan(both, TURNED, SAME)
        self.same([one == other, Plan((A & A) & A, SAME, CHAINED) == Plan((A & A) & A, SAME, CHAINED)], [True, True])
        one, other = Plan(A & A, SAME), Plan(A & A, SAME)
        one.shrink()
        other.do(0, ())
        self.same([one == other, one.undo(), other.undo()], [True, "shrink", "do"])

    def test_papers_are_new_each_time(self):
        plan = Plan(DEEP, TWICE)
        plan.shrink()
        plan.turn(plan.question)
        for paper in plan.papers:
            self.assertIsInstance(paper, Agreed)
            paper.first.trees = None
            paper.first = None
        self.assertEqual([plan.papers[0], plan.papers == plan.papers], [TWICE.verdict, True])
        self.assertEqual(plan.twin().papers, plan.papers)

    def test_what_is_passed_stays(self):
        rewrites = [TWICE, TURNED]
        plan = Plan(DEEP, *rewrites)
        before = str(DEEP)
        plan.shrink()
        rewrites.clear()
        self.same([str(DEEP), len(plan.rewrites), str(plan.begun)], [before, 2, before])


if __name__ == "__main__":
    unittest.main()
