"""Cells: rows of counts that some bounds hold for, one bound for each comparison that was open."""

from rowcounts.forms import lowest_terms, minus_form, rest_form, unit_form, values_of
from rowcounts.weights import Point, settled_forms

# Unlike enough that most cells of small questions have some of them: then no search for a point is needed.
INNER_POINTS = (
    (1, 2, 4, 8), (2, 8, 1, 4), (4, 1, 8, 2), (8, 4, 2, 1), (1, 4, 2, 9), (9, 1, 4, 2), (2, 9, 4, 1), (4, 2, 1, 9),
    (5, 6, 7, 9), (7, 5, 9, 6), (6, 7, 5, 3), (9, 8, 5, 7), (5, 7, 6, 1), (7, 6, 9, 8), (6, 5, 7, 2), (3, 3, 3, 1),
)

EDGE_POINTS = (
    (0, 2, 5, 3), (5, 0, 2, 1), (2, 5, 0, 4), (5, 2, 3, 0), (0, 0, 1, 2), (1, 0, 0, 1), (0, 1, 0, 0), (0, 0, 0, 1),
)


class Cell:
    """The rows of counts for which all bounds of a branch hold; some of them are its points.

    In an inner cell each count is above 0, and each side is strict.
    """

    def __init__(self, many, is_inner, points):
        self.many = many
        self.is_inner = is_inner
        self.points = points
        self.sides = ()
        self.lows = {}
        self.standing = {}

    def with_side(self, form, is_strict, points):
        """The part of the cell where a form is at least 0, or above 0; some points of it are known."""
        part = Cell(self.many, self.is_inner, points)
        lowest = lowest_terms(form)
        part.sides = (*self.sides, (form, is_strict))
        part.lows = {**self.lows, lowest: True}
        part.standing = {**self.standing, lowest: True} if is_strict else self.standing
        return part

    def parts_by(self, form):
        """The part of the cell where a form is at least 0, or above 0 in an inner cell, and that where it is below."""
        values = values_of(form, self.points)
        least = 1 if self.is_inner else 0
        above = [point for point, value in zip(self.points, values) if value >= least]
        below = [point for point, value in zip(self.points, values) if value < 0]
        return self.with_side(form, self.is_inner, above), self.with_side(minus_form(form), True, below)

    def side(self, form):
        """True if it is plain that a form is at least 0, False if that it is at most 0, otherwise None."""
        if is_never_below(form) or lowest_terms(form) in self.lows:
            return True
        return False if self.is_at_most(form) else None

    def stands(self, form):
        """True if it is plain that a form is above 0, False if that it is at most 0, otherwise None."""
        if lowest_terms(form) in self.standing:
            return True
        return False if self.is_at_most(form) else None

    def is_at_most(self, form):
        """Whether it is plain that a form is at most 0."""
        minus = minus_form(form)
        return is_never_below(minus) or lowest_terms(minus) in self.lows

    def sides_by(self, form):
        """A list of pairs: whether a form is at least 0, or else at most 0, and the part of the cell where it is so.

        Parts without counts are left out.
        """
        side = self.side(form)
        if side is not None:
            return [(side, self)]
        above, below = self.parts_by(form)
        return [(is_more, part) for is_more, part in ((True, above), (False, below)) if part.has_counts()]

    def standings_by(self, form):
        """The same, but whether a form is above 0."""
        stands = self.stands(form)
        if stands is not None:
            return [(stands, self)]
        below, above = self.parts_by(minus_form(form))
        return [(is_standing, part) for is_standing, part in ((False, below), (True, above)) if part.has_counts()]

    def part_above(self, form):
        """The part of the cell where a form is above 0, or None if it has no counts."""
        if self.is_below(form):
            return None
        points = [point for point, value in zip(self.points, values_of(form, self.points)) if value > 0]
        part = self.with_side(form, True, points)
        return part if part.has_counts() else None

    def part_from(self, form):
        """The part of the cell where a form is at least 0, or None if it has no counts."""
        if is_never_below(form) or lowest_terms(form) in self.lows:
            return self
        points = [point for point, value in zip(self.points, values_of(form, self.points)) if value >= 0]
        part = self.with_side(form, False, points)
        return part if part.has_counts() else None

    def is_below(self, form):
        """Whether a look at each side tells that a form is at most 0."""
        minus = minus_form(form)
        if is_never_below(minus):
            return True
        for side, _ in self.sides:
            if is_never_below(rest_form(minus, side)):
                return True
        return False

    def has_counts(self):
        """Whether there are counts for which all bounds hold."""
        return bool(self.points) or self.clash() is None

    def settled_with(self, forms, gains):
        """A Point of the cell at which some further bounds hold, or the Clash of all of them."""
        held = [unit_form(at, self.many) for at in range(self.many)]
        inner = [1 if self.is_inner else 0 for _ in held]
        strict = [1 if is_strict else 0 for _, is_strict in self.sides]
        rows = [*held, *[form for form, _ in self.sides], *forms]
        return settled_forms(rows, [*inner, *strict, *gains], self.many)

    def clash(self):
        """The Clash of the bounds, or None if the cell has a point; then one is known from now on."""
        if self.points:
            return None
        found = self.settled_with([], [])
        if not isinstance(found, Point):
            return found
        self.points.append(found.counts)
        return None


def some_points(many):
    """A list of some unlike rows of so many counts."""
    return [point[:many] for point in (*INNER_POINTS, *EDGE_POINTS)]


def whole_cell(many):
    """The cell of all rows of so many counts."""
    return Cell(many, False, some_points(many))


def inner_cell(many):
    """The inner cell of all rows of so many counts above 0."""
    return Cell(many, True, [point[:many] for point in INNER_POINTS])


def is_never_below(form):
    """Whether no factor of a form is below 0."""
    for factor in form:
        if factor < 0:
            return False
    return True
