"""Courses: some questions, step by step, as their forms are found for rows with certain truths of conditions.

Equal questions have one step. What a step tells in a cell, it tells in each part of the cell, too: so the steps
ahead of an open comparison are not gone again behind a bound on it. Only where a Has is false, it may be plain now
that a form is at least 0 that was plainly at most 0: there all steps are gone again.
"""

from rowcounts.branches import Open, compared_form, straight_form
from rowcounts.cells import whole_cell
from rowcounts.forms import minus_form, nought_form, rest_form, sum_form, times_form
from rowcounts.questions import Bent, Both, Chosen, Times, Where
from rowcounts.truths import Has, Not, truth_of_test


class Known:
    """A step that tells a form."""

    def __init__(self, form):
        self.form = form

    def worth(self, told, cell):
        """What the step tells in a cell, those ahead of it being told; or an Open."""
        return self.form


class Equal:
    """A step that tells what another one tells."""

    def __init__(self, part):
        self.part = part

    def worth(self, told, cell):
        """What the step tells in a cell, those ahead of it being told; or an Open."""
        return told[self.part]


class Total:
    """A step that adds up two others."""

    def __init__(self, one, other):
        self.one = one
        self.other = other

    def worth(self, told, cell):
        """What the step tells in a cell, those ahead of it being told; or an Open."""
        return sum_form(told[self.one], told[self.other])


class Multiple:
    """A step that multiplies another one."""

    def __init__(self, number, part):
        self.number = number
        self.part = part

    def worth(self, told, cell):
        """What the step tells in a cell, those ahead of it being told; or an Open."""
        return times_form(self.number, told[self.part])


class Compared:
    """A step that compares two others, as a question does."""

    def __init__(self, asked, one, other):
        self.asked = asked
        self.one = one
        self.other = other

    def worth(self, told, cell):
        """What the step tells in a cell, those ahead of it being told; or an Open."""
        one, other = told[self.one], told[self.other]
        rest = rest_form(one, other)
        is_more = cell.side(rest)
        return Open(rest) if is_more is None else compared_form(self.asked, one, other, is_more)


class Standing:
    """A step that tells whether what another one tells is above 0."""

    def __init__(self, part):
        self.part = part

    def worth(self, told, cell):
        """What the step tells in a cell, those ahead of it being told; or an Open."""
        form = told[self.part]
        stands = cell.stands(form)
        return Open(minus_form(form)) if stands is None else stands


class Picked:
    """A step that looks at a test with Has: of each of these the text is known, and where its step stands."""

    def __init__(self, asked, part, truths, looks):
        self.asked = asked
        self.part = part
        self.truths = truths
        self.looks = looks

    def worth(self, told, cell):
        """What the step tells in a cell, those ahead of it being told; or an Open."""
        truths = {text: self.truths[text] for text in self.truths}
        for text, place in self.looks:
            truths[text] = told[place]
        form = told[self.part]
        return form if is_picked(self.asked, truth_of_test(self.asked.test, truths)) else nought_form(len(form))


class Course:
    """The steps of some questions over tables, for rows with some truths; the ends are the steps of the questions."""

    def __init__(self, questions, tables, truths):
        self.tables = tables
        self.truths = truths
        self.steps = []
        self.indexes = {}
        self.ends = [self.place_of(question) for question in questions]

    def place_of(self, question):
        """The index of the step of a question, which is new unless there is an equal one."""
        text = str(question)
        if text not in self.indexes:
            step = self.new_step(question)
            self.indexes[text] = len(self.steps)
            self.steps.append(step)
        return self.indexes[text]

    def new_step(self, question):
        """The step of a question, behind those of its parts and of its test."""
        parts = [self.place_of(part) for part in question.parts]
        if isinstance(question, Bent):
            return Compared(question, parts[0], parts[1])
        if isinstance(question, Both):
            return Total(parts[0], parts[1])
        if isinstance(question, Times):
            return Multiple(question.number, parts[0])
        if isinstance(question, Chosen):
            return self.chosen_step(question, parts[0])
        return Known(straight_form(question, [], self.tables))

    def chosen_step(self, question, part):
        """The step of a question with a test: without Has it is known ahead whether the part is kept."""
        stands = [(str(test), self.standing_place(test)) for test in standing_tests(question.test)]
        if stands:
            return Picked(question, part, self.truths, stands)
        if is_picked(question, truth_of_test(question.test, self.truths)):
            return Equal(part)
        return Known(nought_form(len(self.tables)))

    def standing_place(self, test):
        """The index of the step of a Has, behind that of its question."""
        place, text = self.place_of(test.asked), str(test)
        if text not in self.indexes:
            self.indexes[text] = len(self.steps)
            self.steps.append(Standing(place))
        return self.indexes[text]


def is_picked(question, truth):
    """Whether a question with a test tells what its part tells, if the test has this truth."""
    return (truth is True) == isinstance(question, Where)


def standing_tests(test):
    """A list of the Has in a test, as they stand in its text."""
    if test.size == 0:
        return []
    if isinstance(test, Has):
        return [test]
    if isinstance(test, Not):
        return standing_tests(test.test)
    return [*standing_tests(test.one), *standing_tests(test.other)]


def found_by_kinds(judgement, goal):
    """A list of what a goal finds on the courses of a judgement, kind by kind, until the goal is reached."""
    found = []
    for at, first in enumerate(judgement.firsts):
        if first < at:
            found.append(found[first])
            continue
        course = Course(judgement.questions, judgement.tables, judgement.truths_of(judgement.sorts[at]))
        found.append(walked(course, goal, whole_cell(len(judgement.tables))))
        if goal.is_reached(found[at]):
            return found
    return found


def walked(course, goal, cell):
    """What a goal finds on a course, all parts of a cell being gone through until the goal is reached."""
    return walked_from(course, goal, (), cell)


def walked_from(course, goal, told, cell):
    """The same in a cell, where the first steps have told what they tell."""
    told = list(told)
    while len(told) < len(course.steps):
        found = course.steps[len(told)].worth(told, cell)
        if isinstance(found, Open):
            return walked_apart(course, goal, told, cell, found.form)
        told.append(found)
    return goal.at_end([told[end] for end in course.ends], cell)


def walked_apart(course, goal, told, cell, form):
    """The same if the next step has an open comparison: in the part where a form is at least 0, then in the other."""
    above, below = cell.parts_by(form)
    is_standing = isinstance(course.steps[len(told)], Standing)
    yes = walked_part(course, goal, () if is_standing else told, above)
    if goal.is_reached(yes):
        return yes
    return goal.branched(form, yes, walked_part(course, goal, told, below))


def walked_part(course, goal, told, cell):
    """The same in a part of a cell, where there may be no counts."""
    clash = cell.clash()
    return walked_from(course, goal, told, cell) if clash is None else goal.at_clash(clash.weights)
