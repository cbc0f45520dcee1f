"""Cells: rows of counts that some bounds hold for, one bound for each comparison that was open."""

from rowcounts.forms import lowest_terms, minus_form, unit_form, value_of
from rowcounts.weights import Point, settled_forms

# Unlike enough that most cells of small questions have some of them: then no search for a point is needed.
SOME_POINTS = (
    (1, 2, 4, 8), (2, 8, 1, 4), (4, 1, 8, 2), (8, 4, 2, 1), (1, 4, 2, 9), (9, 1, 4, 2), (2, 9, 4, 1), (4, 2, 1, 9),
    (5, 6, 7, 9), (7, 5, 9, 6), (6, 7, 5, 3), (9, 8, 5, 7), (5, 7, 6, 1), (7, 6, 9, 8), (6, 5, 7, 2), (0, 2, 5, 3),
    (5, 0, 2, 1), (2, 5, 0, 4), (5, 2, 3, 0), (0, 0, 1, 2), (1, 0, 0, 1), (0, 1, 0, 0), (3, 3, 3, 1), (0, 0, 0, 1),
)


class Cell:
    """The rows of counts for which all bounds of a branch hold; some of them are its points.

    In an inner cell each count is above 0, and each side is strict.
    """

    def __init__(self, many, is_inner, points):
        self.many = many
        self.is_inner = is_inner
        self.points = points
        self.sides = ()
        self.lows = {}
        self.standing = {}

    def with_side(self, form, is_strict, points):
        """The part of the cell where a form is at least 0, or above 0; some points of it are known."""
        part = Cell(self.many, self.is_inner, points)
        lowest = lowest_terms(form)
        part.sides = (*self.sides, (form, is_strict))
        part.lows = {**self.lows, lowest: True}
        part.standing = {**self.standing, lowest: True} if is_strict else self.standing
        return part

    def parts_by(self, form):
        """The part of the cell where a form is at least 0, or above 0 in an inner cell, and that where it is below."""
        above, below = [], []
        for point in self.points:
            value = value_of(form, point)
            if value < 0:
                below.append(point)
            elif value > 0 or not self.is_inner:
                above.append(point)
        return self.with_side(form, self.is_inner, above), self.with_side(minus_form(form), True, below)

    def side(self, form):
        """True if it is plain that a form is at least 0, False if that it is at most 0, otherwise None."""
        if is_never_below(form) or lowest_terms(form) in self.lows:
            return True
        return False if self.is_at_most(form) else None

    def stands(self, form):
        """True if it is plain that a form is above 0, False if that it is at most 0, otherwise None."""
        if lowest_terms(form) in self.standing:
            return True
        return False if self.is_at_most(form) else None

    def is_at_most(self, form):
        """Whether it is plain that a form is at most 0."""
        minus = minus_form(form)
        return is_never_below(minus) or lowest_terms(minus) in self.lows

    def settled_with(self, forms, gains):
        """A Point of the cell at which some further bounds hold, or the Clash of all of them."""
        held = [unit_form(at, self.many) for at in range(self.many)]
        inner = [1 if self.is_inner else 0 for _ in held]
        strict = [1 if is_strict else 0 for _, is_strict in self.sides]
        rows = [*held, *[form for form, _ in self.sides], *forms]
        return settled_forms(rows, [*inner, *strict, *gains], self.many)

    def clash(self):
        """The Clash of the bounds, or None if the cell has a point; then one is known from now on."""
        if self.points:
            return None
        found = self.settled_with([], [])
        if not isinstance(found, Point):
            return found
        self.points.append(found.counts)
        return None


def whole_cell(many):
    """The cell of all rows of so many counts."""
    return Cell(many, False, [point[:many] for point in SOME_POINTS])


def inner_cell(many):
    """The inner cell of all rows of so many counts above 0."""
    points = [point[:many] for point in SOME_POINTS]
    return Cell(many, True, [point for point in points if all([number > 0 for number in point])])


def is_never_below(form):
    """Whether no factor of a form is below 0."""
    for factor in form:
        if factor < 0:
            return False
    return True
