"""Judgements: two questions and some rules, with all that their trees hang on."""

from rowcounts.basics import merged_texts, ordered_texts
from rowcounts.branches import Branch
from rowcounts.errors import BadQuestion, BadRule, TooMany
from rowcounts.forms import Bound, rest_form
from rowcounts.kinds import MOST_CONDITIONS, sorts_of
from rowcounts.questions import Chosen, Question
from rowcounts.rules import Rule
from rowcounts.truths import Has, Not, merged_conditions, unlike_conditions

MOST_TABLES = 4

MOST_OPERATORS = 10

MOST_PAIRS = 4


class Judgement:
    """Two questions, one and other, and demands: pairs of which the first one never tells a row more often.

    What is judged is whether one never tells a row more often than other, on all bases that keep the demands.
    """

    def __init__(self, one, other, demands, tables, asked):
        self.one = one
        self.other = other
        self.demands = demands
        self.tables = tables
        self.asked = asked
        self.questions = questions_of(one, other, demands)
        self.operators = sum([question.size for question in self.questions])
        self.fields = ordered_texts([condition.column for condition in self.asked])
        self.sorts = sorts_of(self.asked)
        self.firsts = firsts_of(self.questions, self.sorts)
        self.unlike_sorts = [self.sorts[at] for at, first in enumerate(self.firsts) if at == first]

    def turned(self):
        """The judgement of the same questions the other way about."""
        return Judgement(self.other, self.one, self.demands, self.tables, self.asked)

    def branch(self):
        """The branch that all trees begin with."""
        return Branch(self.tables)

    def truths_of(self, sort):
        """A dict from the texts of the conditions to their truths for a kind of rows."""
        return {str(condition): truth for condition, truth in zip(self.asked, sort.truths)}

    def leaf_bounds(self, branch, forms):
        """The bounds of a branch, in which the questions are these forms, of the rules, and that one is above other."""
        demanded = [Bound(rest_form(forms[2 * at + 1], forms[2 * at])) for at in range(len(self.demands))]
        return [*branch.bounds, *demanded, Bound(rest_form(forms[-2], forms[-1]), True)]

    def parts_at(self, values, counts):
        """Whether a row with these values and counts keeps the rules and stands more often in one than in other."""
        for first, second in self.demands:
            if first.number_at(values, counts) > second.number_at(values, counts):
                return False
        return self.one.number_at(values, counts) > self.other.number_at(values, counts)


def judgement_of(one, other, rules):
    """The judgement of any values, which are refused if they are no questions and rules of its sizes."""
    if not isinstance(one, Question):
        raise BadQuestion("one")
    if not isinstance(other, Question):
        raise BadQuestion("other")
    for at, rule in enumerate(rules):
        if not isinstance(rule, Rule):
            raise BadRule(at)
    demands = [pair for rule in rules for pair in rule.pairs]
    questions = questions_of(one, other, demands)
    tables, asked = names_of(questions), conditions_of(questions)
    check_sizes(tables, sum([question.size for question in questions]), asked, MOST_TABLES, MOST_OPERATORS)
    if len(demands) > MOST_PAIRS:
        raise TooMany("rules", MOST_PAIRS)
    return Judgement(one, other, demands, tables, asked)


def judgement_without_rules(one, other):
    """The judgement of two questions, of any size, without rules."""
    tables, asked = merged_texts(one.names, other.names), merged_conditions(one.conditions, other.conditions)
    return Judgement(one, other, [], tables, asked)


def check_size_of(question, most_tables, most_operators):
    """Refuse a question of more tables, operators or conditions than this."""
    check_sizes(question.names, question.size, question.conditions, most_tables, most_operators)


def check_sizes(tables, operators, conditions, most_tables, most_operators):
    """Refuse more tables, operators or conditions than this."""
    if len(tables) > most_tables:
        raise TooMany("tables", most_tables)
    if operators > most_operators:
        raise TooMany("operators", most_operators)
    if len(conditions) > MOST_CONDITIONS:
        raise TooMany("conditions", MOST_CONDITIONS)


def questions_of(one, other, demands):
    """A list of all questions of a judgement, those of the pairs first."""
    return [*[question for pair in demands for question in pair], one, other]


def names_of(questions):
    """The table names of some questions, ascending."""
    return ordered_texts([name for question in questions for name in question.names])


def conditions_of(questions):
    """The unlike conditions of some questions, ascending by their texts."""
    return unlike_conditions([condition for question in questions for condition in question.conditions])


def firsts_of(questions, sorts):
    """A list that tells for each kind of rows the index of the first one of which all questions tell the same."""
    if len(sorts) < 2:
        return [at for at, _ in enumerate(sorts)]
    tests, found = counting_tests(questions), {}
    counting = [truths_counting(tests, sort) for sort in sorts]
    for at, truths in enumerate(counting):
        if truths not in found:
            found[truths] = at
    return [found[truths] for truths in counting]


def counting_tests(questions):
    """A list of all greatest parts without Has of the tests in some questions.

    Each is told with whether a question looks at it: then it counts only whether it is true.
    """
    found = []
    for question in questions:
        if not question.is_plain:
            add_tests(question, found)
    return found


def add_tests(question, found):
    """Put the same for one question, of its parts and of its test, behind those that are found."""
    for part in question.parts:
        add_tests(part, found)
    if isinstance(question, Chosen):
        if question.test.size == 0:
            found.append((question.test, True))
        else:
            add_parts(question.test, found)


def add_parts(test, found):
    """Put the same for a test behind those that are found."""
    if test.size == 0:
        found.append((test, False))
    elif isinstance(test, Has):
        add_tests(test.asked, found)
    elif isinstance(test, Not):
        add_parts(test.test, found)
    else:
        add_parts(test.one, found)
        add_parts(test.other, found)


def truths_counting(tests, sort):
    """What counts of the truths of such tests for a kind of rows; if it is equal, all questions tell the same."""
    truths = [test.known(sort.known_values, {}) for test, _ in tests]
    return tuple([truth is True if is_asked else truth for truth, (_, is_asked) in zip(truths, tests)])
