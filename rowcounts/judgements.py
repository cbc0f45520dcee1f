"""Judgements: two questions and some rules, with all that their trees hang on."""

from rowcounts.basics import ordered_texts
from rowcounts.branches import Branch
from rowcounts.errors import BadQuestion, BadRule, TooMany
from rowcounts.forms import Bound, rest_form
from rowcounts.kinds import MOST_CONDITIONS, kinds_of
from rowcounts.questions import Question
from rowcounts.rules import Rule
from rowcounts.truths import unlike_conditions

MOST_TABLES = 4

MOST_OPERATORS = 10

MOST_PAIRS = 4


class Judgement:
    """Two questions, one and other, and demands: pairs of which the first one never tells a row more often.

    What is judged is whether one never tells a row more often than other, on all bases that keep the demands.
    """

    def __init__(self, one, other, demands):
        self.one = one
        self.other = other
        self.demands = demands
        self.questions = questions_of(one, other, demands)
        self.tables = names_of(self.questions)
        self.asked = conditions_of(self.questions)
        self.fields = ordered_texts([condition.column for condition in self.asked])
        self.sorts = kinds_of(self.asked)

    def turned(self):
        """The judgement of the same questions the other way about."""
        return Judgement(self.other, self.one, self.demands)

    def branch(self):
        """The branch that all trees begin with."""
        return Branch(self.tables)

    def truths_of(self, kind):
        """A dict from the texts of the conditions to their truths for a kind of rows."""
        return {str(condition): truth for condition, truth in zip(self.asked, kind.truths)}

    def leaf_bounds(self, branch, forms):
        """The bounds of a branch, in which the questions are these forms, of the rules, and that one is above other."""
        demanded = [Bound(rest_form(forms[2 * at + 1], forms[2 * at])) for at in range(len(self.demands))]
        return [*branch.bounds, *demanded, Bound(rest_form(forms[-2], forms[-1]), True)]

    def parts_at(self, values, counts):
        """Whether a row with these values and counts keeps the rules and stands more often in one than in other."""
        for first, second in self.demands:
            if first.number_at(values, counts) > second.number_at(values, counts):
                return False
        return self.one.number_at(values, counts) > self.other.number_at(values, counts)


def judgement_of(one, other, rules):
    """The judgement of any values, which are refused if they are no questions and rules of its sizes."""
    if not isinstance(one, Question):
        raise BadQuestion("one")
    if not isinstance(other, Question):
        raise BadQuestion("other")
    for at, rule in enumerate(rules):
        if not isinstance(rule, Rule):
            raise BadRule(at)
    demands = [pair for rule in rules for pair in rule.pairs]
    check_sizes(questions_of(one, other, demands), MOST_TABLES, MOST_OPERATORS)
    if len(demands) > MOST_PAIRS:
        raise TooMany("rules", MOST_PAIRS)
    return Judgement(one, other, demands)


def check_sizes(questions, tables, operators):
    """Refuse questions that together have more tables, operators or conditions than this."""
    if len(names_of(questions)) > tables:
        raise TooMany("tables", tables)
    if sum([question.size for question in questions]) > operators:
        raise TooMany("operators", operators)
    if len(conditions_of(questions)) > MOST_CONDITIONS:
        raise TooMany("conditions", MOST_CONDITIONS)


def questions_of(one, other, demands):
    """A list of all questions of a judgement, those of the pairs first."""
    return [*[question for pair in demands for question in pair], one, other]


def names_of(questions):
    """The table names of some questions, ascending."""
    return ordered_texts([name for question in questions for name in question.names])


def conditions_of(questions):
    """The unlike conditions of some questions, ascending by their texts."""
    return unlike_conditions([question.conditions for question in questions])
