"""Some bounds: either numbers at which all of them hold, or weights by which they add up to one that holds nowhere.

The search goes from one row of independent bounds to the next one, each time with one bound exchanged. The numbers
are those at which the bounds of the row just hold, strict ones by one step. All is reckoned in integers.
"""

from rowcounts.basics import is_integer
from rowcounts.errors import BadBounds, BadNumber
from rowcounts.forms import (
    MOST_FACTORS, is_bound_of, is_nought, lowest_terms, nought_form, sum_form, times_form, unit_form,
)
from rowcounts.papers import own_copy, same

MOST_BOUNDS = 80


class Point:
    """A paper: numbers at which all bounds hold."""

    def __init__(self, counts):
        self.counts = own_copy(counts)

    def __bool__(self):
        return True

    def __eq__(self, other):
        return isinstance(other, Point) and same(self.counts, other.counts)


class Clash:
    """A paper: weights by which the bounds add up to one that holds nowhere."""

    def __init__(self, weights):
        self.weights = own_copy(weights)

    def __bool__(self):
        return False

    def __eq__(self, other):
        return isinstance(other, Clash) and same(self.weights, other.weights)


def settled(bounds, many):
    """A Point at which all bounds hold, or a Clash that shows that there is none."""
    check_bounds(bounds, many)
    return point_or_clash(bounds, many)


def shows_point(bounds, many, value):
    """Whether any value is a Point at which all bounds hold."""
    check_bounds(bounds, many)
    if not isinstance(value, Point) or not isinstance(value.counts, tuple) or len(value.counts) != many:
        return False
    if not all([is_integer(count) for count in value.counts]):
        return False
    return all([bound(value.counts) for bound in bounds])


def shows_clash(bounds, many, value):
    """Whether any value is a Clash that shows that the bounds hold nowhere."""
    check_bounds(bounds, many)
    return isinstance(value, Clash) and are_clashing(bounds, many, value.weights)


def check_bounds(bounds, many):
    """Refuse any values that are no bounds over so many numbers."""
    if not is_integer(many) or not 0 <= many <= MOST_FACTORS:
        raise BadNumber(many)
    if not isinstance(bounds, (list, tuple)) or len(bounds) > MOST_BOUNDS:
        raise BadBounds(None)
    for at, bound in enumerate(bounds):
        if not is_bound_of(bound, many):
            raise BadBounds(at)


def are_clashing(bounds, many, weights):
    """Whether any value tells weights by which the bounds add up to one that holds nowhere."""
    if not isinstance(weights, tuple) or len(weights) != len(bounds):
        return False
    if not all([is_integer(weight) and weight >= 0 for weight in weights]):
        return False
    if not any([bound.is_strict and weight > 0 for bound, weight in zip(bounds, weights)]):
        return False
    total = nought_form(many)
    for bound, weight in zip(bounds, weights):
        total = sum_form(total, times_form(weight, bound.form))
    return is_nought(total)


class Grid:
    """A row of independent bounds, one for each line, and all other bounds told by these.

    Line by line stand the factors by which a bound is told, behind them those of the numbers themselves; all of them
    are to be divided by the scale. The gains tell for each bound by how much it falls short of what it asks.
    """

    def __init__(self, forms, gains, many):
        self.lines = [[*[form[at] for form in forms], *unit_form(at, many)] for at in range(many)]
        self.gains = [*gains, *nought_form(many)]
        self.holders = [None for _ in range(many)]
        self.scale = 1

    def exchange(self, at, place):
        """Let the line at an index hold the bound at a place, in which it has a factor."""
        held = self.lines[at] if self.lines[at][place] > 0 else times_form(-1, self.lines[at])
        self.lines = [
            held if other == at else reduced(line, held, place, self.scale) for other, line in enumerate(self.lines)
        ]
        self.gains = reduced(self.gains, held, place, self.scale)
        self.holders[at] = place
        self.scale = held[place]


def reduced(line, held, place, scale):
    """A line without the bound at a place, which another line holds from now on."""
    own, top = line[place], held[place]
    if own == 0 and top == scale:
        return line
    return [(factor * top - own * more) // scale for factor, more in zip(line, held)]


def point_or_clash(bounds, many):
    """The same as settled, for bounds that are known to fit."""
    return settled_forms([bound.form for bound in bounds], [1 if bound.is_strict else 0 for bound in bounds], many)


def settled_forms(forms, gains, many):
    """The same for the forms of bounds, and for each of these a 1 if it is strict, otherwise a 0."""
    grid = Grid(forms, gains, many)
    for at in range(many):
        place = first_place(grid.lines[at], len(forms))
        if place is not None:
            grid.exchange(at, place)
    place = short_place(grid, len(forms))
    while place is not None:
        at = leaving_line(grid, place)
        if at is None:
            return Clash(lowest_terms(clashing_weights(grid, place, len(forms))))
        grid.exchange(at, place)
        place = short_place(grid, len(forms))
    return Point(lowest_terms([-gain for gain in grid.gains[len(forms):]]))


def first_place(line, many):
    """The first place of a bound in which a line has a factor, or None."""
    for place in range(many):
        if line[place] != 0:
            return place
    return None


def short_place(grid, many):
    """The place of the first bound that does not hold yet, or None.

    The first one here, and the line of the first bound in leaving_line: so no row of bounds comes again (Bland's rule).
    """
    for place in range(many):
        if grid.gains[place] > 0:
            return place
    return None


def leaving_line(grid, place):
    """The line whose bound must give way to the one at a place, or None if none can: then the bounds clash."""
    found = None
    for at, line in enumerate(grid.lines):
        if line[place] > 0 and (found is None or grid.holders[at] < grid.holders[found]):
            found = at
    return found


def clashing_weights(grid, place, many):
    """The weights by which the bound at a place and those of the lines add up to one that holds nowhere."""
    weights = [0 for _ in range(many)]
    weights[place] = grid.scale
    for at, line in enumerate(grid.lines):
        if line[place] < 0:
            weights[grid.holders[at]] = -line[place]
    return weights
