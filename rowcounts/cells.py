"""Cells: rows of counts that some bounds hold for, one bound for each comparison that was open."""

from rowcounts.forms import lowest_terms, minus_form, unit_form, value_of
from rowcounts.weights import Point, settled_forms

# Unlike enough that most cells of small questions have some of them: then no search for a point is needed.
SOME_POINTS = (
    (1, 2, 4, 8), (2, 8, 1, 4), (4, 1, 8, 2), (8, 4, 2, 1), (1, 4, 2, 9), (9, 1, 4, 2), (2, 9, 4, 1), (4, 2, 1, 9),
    (5, 6, 7, 9), (7, 5, 9, 6), (6, 7, 5, 3), (9, 8, 5, 7), (5, 7, 6, 1), (7, 6, 9, 8), (6, 5, 7, 2), (0, 2, 5, 3),
    (5, 0, 2, 1), (2, 5, 0, 4), (5, 2, 3, 0), (0, 0, 1, 2), (1, 0, 0, 1), (0, 1, 0, 0), (3, 3, 3, 1), (0, 0, 0, 1),
)


class Cell:
    """The rows of counts for which all bounds of a branch hold; some of them are its points."""

    def __init__(self, many, sides, lows, standing, points):
        self.many = many
        self.sides = sides
        self.lows = lows
        self.standing = standing
        self.points = points

    def with_side(self, form, is_strict, points):
        """The part of the cell where a form is at least 0, or above 0; some points of it are known."""
        lowest = lowest_terms(form)
        standing = {**self.standing, lowest: True} if is_strict else self.standing
        sides = (*self.sides, (form, is_strict))
        return Cell(self.many, sides, {**self.lows, lowest: True}, standing, points)

    def side(self, form):
        """True if it is plain that a form is at least 0, False if that it is at most 0, otherwise None."""
        if is_never_below(form) or lowest_terms(form) in self.lows:
            return True
        return False if self.is_at_most(form) else None

    def stands(self, form):
        """True if it is plain that a form is above 0, False if that it is at most 0, otherwise None."""
        if lowest_terms(form) in self.standing:
            return True
        return False if self.is_at_most(form) else None

    def is_at_most(self, form):
        """Whether it is plain that a form is at most 0."""
        minus = minus_form(form)
        return is_never_below(minus) or lowest_terms(minus) in self.lows

    def settled_with(self, forms, gains):
        """A Point of the cell at which some further bounds hold, or the Clash of all of them."""
        held = [unit_form(at, self.many) for at in range(self.many)]
        strict = [1 if is_strict else 0 for _, is_strict in self.sides]
        rows = [*held, *[form for form, _ in self.sides], *forms]
        return settled_forms(rows, [*[0 for _ in held], *strict, *gains], self.many)


def whole_cell(many):
    """The cell of all rows of so many counts."""
    return Cell(many, (), {}, {}, [point[:many] for point in SOME_POINTS])


def is_never_below(form):
    """Whether no factor of a form is below 0."""
    for factor in form:
        if factor < 0:
            return False
    return True


def parts_of(cell, form):
    """The part of a cell where a form is at least 0, and that where it is below."""
    above, below = [], []
    for point in cell.points:
        if value_of(form, point) >= 0:
            above.append(point)
        else:
            below.append(point)
    return cell.with_side(form, False, above), cell.with_side(minus_form(form), True, below)


def clash_in(cell):
    """The Clash of the bounds of a cell, or None if the cell has a point; then one is known from now on."""
    if cell.points:
        return None
    found = cell.settled_with([], [])
    if not isinstance(found, Point):
        return found
    cell.points.append(found.counts)
    return None
