"""Random questions and tests as plain tuples, their texts, their numbers and what is made of them: an own reckoning."""

from rowcounts.questions import Empty, Table
from rowcounts.truths import Below, Equals, Has, Missing, UpTo

FALSE, UNKNOWN, TRUE = 0, 1, 2

PAIRS = {
    "+": lambda a, b: a + b,
    "&": lambda a, b: a if a < b else b,
    "|": lambda a, b: b if a < b else a,
    "-": lambda a, b: a - b if a > b else 0,
}


def some_question(dice, depth, names="abc", tests=True):
    """A random tree of a question; trees of tests have other words ahead."""
    if depth == 0 or dice.random() < 0.15:
        return ("empty",) if dice.random() < 0.1 else ("table", dice.choice(names))
    kind = dice.choice("+&|-+&|-*wu" if tests else "+&|-+&|-*")
    part = some_question(dice, depth - 1, names, tests)
    if kind == "*":
        return ("*", dice.randrange(10), part)
    if kind in "wu":
        return ("where" if kind == "w" else "unless", part, some_test(dice, depth - 1, names))
    return (kind, part, some_question(dice, depth - 1, names, tests))


def some_test(dice, depth, names="abc"):
    """A random tree of a test."""
    kind = dice.choice(["and", "or", "not", "has"]) if depth > 0 else "condition"
    if kind == "has":
        return ("has", some_question(dice, depth - 1, names))
    if kind in ("and", "or"):
        return (kind, some_test(dice, depth - 1, names), some_test(dice, depth - 1, names))
    if kind == "not":
        inner = some_test(dice, depth - 1, names)
        return inner if inner[0] == "not" else ("not", inner)
    return (dice.choice(["<", "<=", "=", "null"]), dice.choice("xy"), dice.choice([-2, 0, 1]))


def text_of(tree):
    kind = tree[0]
    if kind == "table":
        return tree[1]
    if kind == "empty":
        return "empty"
    if kind == "*":
        return f"( {tree[1]} * {text_of(tree[2])} )"
    if kind in ("not", "has"):
        return f"{kind} {text_of(tree[1])}"
    if kind == "null":
        return f"{tree[1]} null"
    if kind in ("<", "<=", "="):
        return f"{tree[1]} {kind} {tree[2]}"
    return f"( {text_of(tree[1])} {kind} {text_of(tree[2])} )"


def made_of(tree):
    """The question or the test of a tree."""
    kind = tree[0]
    if kind in ("table", "empty"):
        return Table(tree[1]) if kind == "table" else Empty()
    if kind in ("<", "<=", "="):
        return {"<": Below, "<=": UpTo, "=": Equals}[kind](tree[1], tree[2])
    if kind == "null":
        return Missing(tree[1])
    if kind == "*":
        return made_of(tree[2]) * tree[1]
    one = made_of(tree[1])
    if kind in ("not", "has"):
        return ~one if kind == "not" else Has(one)
    other = made_of(tree[2])
    signs = {"+": lambda: one + other, "&": lambda: one & other, "|": lambda: one | other, "-": lambda: one - other,
             "where": lambda: one % other, "unless": lambda: one // other,
             "and": lambda: one & other, "or": lambda: one | other}
    return signs[kind]()


def number_of(tree, values, counts):
    """The number of a row in the answer of a tree."""
    kind = tree[0]
    if kind in ("table", "empty"):
        return counts[tree[1]] if kind == "table" else 0
    if kind == "*":
        return sum(number_of(tree[2], values, counts) for _ in range(tree[1]))
    part = number_of(tree[1], values, counts)
    if kind in ("where", "unless"):
        return part if (truth_of(tree[2], values, counts) == TRUE) == (kind == "where") else 0
    return PAIRS[kind](part, number_of(tree[2], values, counts))


def truth_of(tree, values, counts):
    """FALSE, UNKNOWN or TRUE."""
    kind = tree[0]
    if kind in ("and", "or"):
        truths = [truth_of(part, values, counts) for part in tree[1:]]
        return min(truths) if kind == "and" else max(truths)
    if kind == "not":
        return TRUE - truth_of(tree[1], values, counts)
    if kind == "has":
        return TRUE if number_of(tree[1], values, counts) else FALSE
    value = values[tree[1]]
    if kind == "null":
        return TRUE if value is None else FALSE
    if value is None:
        return UNKNOWN
    found = {"<": value < tree[2], "<=": value <= tree[2], "=": value == tree[2]}[kind]
    return TRUE if found else FALSE


def size_of(tree):
    """How many operators there are, each has counted, too."""
    own = 1 if tree[0] in ("+", "&", "|", "-", "*", "where", "unless", "has") else 0
    return own + sum(size_of(part) for part in tree[1:] if type(part) is tuple)


def leaves_of(tree):
    """All table names, columns and texts of conditions in a tree, as three sets."""
    names, columns, texts = set(), set(), set()
    if tree[0] == "table":
        names.add(tree[1])
    elif tree[0] in ("<", "<=", "=", "null"):
        columns.add(tree[1])
        texts.add(text_of(tree))
    for part in tree[1:]:
        if type(part) is tuple:
            more = leaves_of(part)
            names |= more[0]
            columns |= more[1]
            texts |= more[2]
    return names, columns, texts
