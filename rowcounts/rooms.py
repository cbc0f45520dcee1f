"""Rooms: how much must be kept of the counts of a row, so that an answer can be led on whatever rows come later."""

from rowcounts.basics import is_integer, ordered_rows
from rowcounts.branches import Branch, Open, compared_form, form_in, straight_form
from rowcounts.cells import inner_cell
from rowcounts.courses import Course, walked
from rowcounts.errors import BadCounts, BadQuestion
from rowcounts.forms import (
    Bound, is_form_of, is_nought, minus_form, nought_form, rest_form, sum_form, times_form, unit_form, value_of,
)
from rowcounts.judge import Leaf, Split
from rowcounts.judgements import check_size_of
from rowcounts.look_judge import MOST_LEAVES, MOST_SPLITS, leaves_of
from rowcounts.papers import own_copy, same
from rowcounts.questions import Bent, Question
from rowcounts.spans import Span, are_independent, shares_of
from rowcounts.weights import are_clashing

MOST_TABLES = 4

MOST_OPERATORS = 10


class Piece:
    """A paper: a form, and a point at which a question is it inside."""

    def __init__(self, form, point):
        self.form = own_copy(form)
        self.point = own_copy(point)

    def __eq__(self, other):
        return isinstance(other, Piece) and same(self.form, other.form) and same(self.point, other.point)


class Room:
    """A paper: how many counters a question needs, its independent pieces, and a tree that shows that they suffice."""

    def __init__(self, rank, kept, tree):
        self.rank = own_copy(rank)
        self.kept = own_copy(kept)
        self.tree = own_copy(tree)

    def __eq__(self, other):
        if not isinstance(other, Room) or not same(self.rank, other.rank):
            return False
        return same(self.kept, other.kept) and same(self.tree, other.tree)


class Share:
    """A paper, a tree: the kept forms, each as often as shares tell, are a form as often as the divisor tells."""

    def __init__(self, shares, divisor):
        self.shares = own_copy(shares)
        self.divisor = own_copy(divisor)

    def __eq__(self, other):
        return isinstance(other, Share) and same(self.shares, other.shares) and same(self.divisor, other.divisor)


class Later:
    """A paper: counts that are put to two rows of counts, and what a question tells then."""

    def __init__(self, counts, one, other):
        self.counts = own_copy(counts)
        self.one = own_copy(one)
        self.other = own_copy(other)

    def __eq__(self, other):
        if not isinstance(other, Later) or not same(self.counts, other.counts):
            return False
        return same(self.one, other.one) and same(self.other, other.other)


def pieces(question):
    """The tuple of all Pieces of a question, ascending by their forms."""
    check_question(question)
    return pieces_in(raw_tree(question))


def room(question):
    """The Room of a question."""
    check_question(question)
    tree = raw_tree(question)
    span, kept = Span(()), []
    for piece in pieces_in(tree):
        if span.with_form(piece.form):
            kept.append(piece)
    return Room(len(kept), tuple(kept), with_shares(tree, span))


def shows_room(question, value):
    """Whether any value is a right Room of a question."""
    check_question(question)
    if not isinstance(value, Room) or not are_kept(question, value.kept):
        return False
    if not is_integer(value.rank) or value.rank != len(value.kept):
        return False
    if leaves_of(value.tree, MOST_SPLITS, MOST_LEAVES) > MOST_LEAVES:
        return False
    forms = [piece.form for piece in value.kept]
    return is_right_tree(question, first_branch(question), forms, value.tree)


def told_apart(question, counts, others):
    """A Later with which a question tells two rows of counts apart, or None if they are alike for ever."""
    check_question(question)
    check_counts(question, counts, "counts")
    check_counts(question, others, "others")
    for piece in pieces_in(raw_tree(question)):
        if value_at(piece.form, question, counts) != value_at(piece.form, question, others):
            return later_by(question, counts, others, piece.point)
    return None


def check_question(question):
    """Refuse any value that is no plain question of the sizes."""
    if not isinstance(question, Question):
        raise BadQuestion("question")
    if not question.is_plain:
        raise BadQuestion("plain")
    check_size_of(question, MOST_TABLES, MOST_OPERATORS)


def check_counts(question, counts, part):
    """Refuse any value that does not tell a number for each table of a question."""
    if not isinstance(counts, dict):
        raise BadCounts(part)
    for name in question.names:
        if name not in counts or not is_integer(counts[name]) or counts[name] < 0:
            raise BadCounts(part)


def first_branch(question):
    """The branch with the bounds that each number is above 0, which stand behind those of all branches."""
    many = len(question.names)
    bounds = [Bound(unit_form(at, many), True) for at in range(many)]
    return Branch(question.names, *bounds)


def bounds_in(branch):
    """The bounds of a branch as its leaves have them: those of all branches play no part."""
    return branch[len(branch.names):]


def raw_tree(question):
    """The tree of a question, with Pieces in the place of Shares."""
    course = Course([question], question.names, {})
    return walked(course, Parts(), inner_cell(len(question.names)))


class Parts:
    """A goal: the tree of a question, with Pieces in the place of Shares."""

    def at_end(self, forms, cell):
        """The Piece of a cell."""
        return Piece(forms[0], cell.points[0])

    def at_clash(self, weights):
        """The Leaf of a cell without counts."""
        return Leaf(weights)

    def branched(self, form, yes, no):
        """The tree out of that where a form is above 0, and that where it is below."""
        return Split(form, yes, no)

    def is_reached(self, found):
        """All cells are asked for."""
        return False


def pieces_in(tree):
    """The tuple of the Pieces of a raw tree, one for each form, ascending by these."""
    found = {}
    for piece in pieces_below(tree):
        if piece.form not in found:
            found[piece.form] = piece
    return tuple([found[form] for form in ordered_rows(list(found))])


def pieces_below(tree):
    """A list of all Pieces of a raw tree."""
    if isinstance(tree, Split):
        return [*pieces_below(tree.yes), *pieces_below(tree.no)]
    return [tree] if isinstance(tree, Piece) else []


def with_shares(tree, span):
    """A raw tree with Shares in the place of its Pieces, which are sums of multiples of the forms of a span."""
    if isinstance(tree, Split):
        return Split(tree.form, with_shares(tree.yes, span), with_shares(tree.no, span))
    if isinstance(tree, Leaf):
        return tree
    shares, divisor = shares_of(span, tree.form)
    return Share(shares, divisor)


def form_inside(question, names, point):
    """The form that a question is inside at a point, or None if it is none there."""
    forms = [form_inside(part, names, point) for part in question.parts]
    if any([form is None for form in forms]):
        return None
    if not isinstance(question, Bent):
        return straight_form(question, forms, names)
    rest = rest_form(forms[0], forms[1])
    total = value_of(rest, point)
    if total == 0 and not is_nought(rest):
        return None
    return compared_form(question, forms[0], forms[1], total >= 0)


def are_kept(question, value):
    """Whether any value is a tuple of Pieces of a question with independent forms."""
    if not isinstance(value, tuple) or not all([is_right_piece(question, piece) for piece in value]):
        return False
    return are_independent([piece.form for piece in value])


def is_right_piece(question, value):
    """Whether any value is a Piece with a point at which the question is its form inside."""
    many = len(question.names)
    if not isinstance(value, Piece) or not is_form_of(value.form, many) or not is_form_of(value.point, many):
        return False
    if not all([number >= 1 for number in value.point]):
        return False
    return form_inside(question, question.names, value.point) == value.form


def is_right_tree(question, branch, forms, tree):
    """Whether any value is a right tree of a room on a branch, with these kept forms."""
    many = len(branch.names)
    if isinstance(tree, Leaf):
        return are_clashing(bounds_in(branch), many, tree.weights)
    if isinstance(tree, Share):
        return is_right_share(question, branch, forms, tree)
    if not isinstance(tree, Split) or not is_form_of(tree.form, many) or is_nought(tree.form):
        return False
    if not is_right_tree(question, branch + Bound(tree.form, True), forms, tree.yes):
        return False
    return is_right_tree(question, branch + Bound(minus_form(tree.form), True), forms, tree.no)


def is_right_share(question, branch, forms, tree):
    """Whether the question is a form in a branch, which a Share tells by the kept forms."""
    if not isinstance(tree.shares, tuple) or len(tree.shares) != len(forms):
        return False
    if not all([is_integer(number) for number in (*tree.shares, tree.divisor)]) or tree.divisor < 1:
        return False
    total = nought_form(len(branch.names))
    for number, form in zip(tree.shares, forms):
        total = sum_form(total, times_form(number, form))
    form = form_in(question, {}, branch)
    return not isinstance(form, Open) and times_form(tree.divisor, form) == total


def value_at(form, question, counts):
    """What a form over the tables of a question tells for some counts."""
    return value_of(form, [counts[name] for name in question.names])


def later_by(question, counts, others, point):
    """A Later for two rows of counts that a piece tells apart, which the question is inside at a point.

    Far enough into the room around the point, both rows have this piece.
    """
    times = 0
    found = later_at(question, counts, others, [0 for _ in point])
    while found.one == found.other:
        times = 2 * times if times > 0 else 1
        found = later_at(question, counts, others, times_form(times, point))
    return found


def later_at(question, counts, others, more):
    """What a question tells for two rows of counts if these numbers are put to both."""
    put = dict(zip(question.names, more))
    one, other = [question.number_at({}, {name: told[name] + put[name] for name in put}) for told in (counts, others)]
    return Later(put, one, other)
