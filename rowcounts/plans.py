"""Plans: a question that is turned into alike ones alone."""

from rowcounts.basics import is_integer
from rowcounts.copies import copied
from rowcounts.errors import BadPlan, NoDeed, TooMany, Unlike
from rowcounts.judge import Parted, alike
from rowcounts.questions import Question
from rowcounts.rewrites import Rewrite
from rowcounts.trials import Trial

MOST_REWRITES = 12


class Turned:
    """What a plan is behind a deed: it never changes, so going back is taking the one ahead."""

    def __init__(self, asked, steps, word, ahead):
        self.asked = asked
        self.steps = steps
        self.word = word
        self.ahead = ahead
        self.many = 0 if ahead is None else ahead.many + 1


class Plan:
    """A question, what it was at the beginning, and how it was turned."""

    def __init__(self, question, *rewrites):
        check_plan(question, rewrites)
        self._begun = question
        self._rewrites = rewrites
        self.state = Turned(question, (), None, None)

    @property
    def question(self):
        """The question as it is now."""
        return self.state.asked

    @question.setter
    def question(self, value):
        self.turn(value)

    @property
    def begun(self):
        """The question as it was at the beginning."""
        return self._begun

    @property
    def rewrites(self):
        """The rewrites that can be done."""
        return self._rewrites

    @property
    def size(self):
        """The size of the question now."""
        return self.state.asked.size

    @property
    def papers(self):
        """New Agreeds of all changes from the beginning on."""
        return tuple([copied(paper) for _, paper in self.state.steps])

    @property
    def log(self):
        """The texts of all changes from the beginning on."""
        return tuple([text for text, _ in self.state.steps])

    @property
    def deeds(self):
        """How many deeds can be taken back."""
        return self.state.many

    def turn(self, question):
        """Take a question that is alike in the place of the one now."""
        if not isinstance(question, Question):
            raise BadPlan("question")
        paper = alike(self.state.asked, question)
        if isinstance(paper, Parted):
            raise Unlike(paper)
        steps = (*self.state.steps, (f"turn {question}", copied(paper)))
        self.state = Turned(question, steps, "turn", self.state)

    def do(self, at, place):
        """Do the rewrite at an index at a place."""
        if not is_integer(at) or not 0 <= at < len(self._rewrites):
            raise BadPlan("at")
        question, step = step_done(self._rewrites, self.state.asked, at, place)
        self.state = Turned(question, (*self.state.steps, step), "do", self.state)

    def each_step(self):
        """The pairs of an index and a place of all steps that can be done, by rewrites, then places."""
        question = self.state.asked
        for at, rewrite in enumerate(self._rewrites):
            for place in rewrite.places(question):
                if size_behind(rewrite, question, place) is not None:
                    yield at, place

    def shrink(self):
        """Do steps that make the size less, the first one each time, as long as there is one; tells how many."""
        question, steps = self.state.asked, self.state.steps
        found = first_less(self._rewrites, question)
        while found is not None:
            question, step = step_done(self._rewrites, question, found[0], found[1])
            steps = (*steps, step)
            found = first_less(self._rewrites, question)
        many = len(steps) - len(self.state.steps)
        if many > 0:
            self.state = Turned(question, steps, "shrink", self.state)
        return many

    def undo(self):
        """Take back the last deed; tells its word."""
        if self.state.ahead is None:
            raise NoDeed()
        word = self.state.word
        self.state = self.state.ahead
        return word

    def trial(self):
        """What a with statement takes: behind the block the plan is as it was ahead of it."""
        return Trial(self)

    def tried(self, work):
        """What a function tells of the plan, which is as ahead of the call behind it."""
        with self.trial():
            return work(self)

    def attempt(self, work):
        """What a function tells of the plan, which is as ahead of the call if that raises an error."""
        failed = self.state
        try:
            found = work(self)
            failed = None
        finally:
            if failed is not None:
                self.state = failed
        return found

    def twin(self):
        """An equal plan with the same deeds, which goes its own way."""
        made = Plan(self._begun, *self._rewrites)
        made.state = self.state
        return made

    def __eq__(self, other):
        if not isinstance(other, Plan) or self._begun != other._begun or self._rewrites != other._rewrites:
            return False
        return self.state.asked == other.state.asked and self.log == other.log


def check_plan(question, rewrites):
    """Refuse any values that a plan cannot begin with."""
    if not isinstance(question, Question):
        raise BadPlan("question")
    for at, rewrite in enumerate(rewrites):
        if not isinstance(rewrite, Rewrite):
            raise BadPlan(at)
    if len(rewrites) > MOST_REWRITES:
        raise TooMany("rewrites", MOST_REWRITES)
    for rewrite in rewrites:
        if not rewrite.is_right:
            raise Unlike(rewrite.verdict)


def step_done(rewrites, question, at, place):
    """The question behind a step, and the text of the step with its paper."""
    rewrite = rewrites[at]
    return rewrite.done(question, place), (f"do {at} {place_text(place)}", rewrite.verdict)


def place_text(place):
    """The figures of a place without spaces."""
    return "".join([str(step) for step in place]) if place else "-"


def size_behind(rewrite, question, place):
    """The size of a question behind a rewrite at a place where it fits, or None if it is too great."""
    try:
        return rewrite.done(question, place).size
    except TooMany:
        return None


def first_less(rewrites, question):
    """The first step of all that makes the size of a question less, or None."""
    for at, rewrite in enumerate(rewrites):
        for place in rewrite.places(question):
            size = size_behind(rewrite, question, place)
            if size is not None and size < question.size:
                return at, place
    return None
