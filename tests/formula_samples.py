"""Formulas that several tests use."""

KINDS = [
    ("true",), ("false",), ("value", "01"), ("mark", "m"), ("name", "x"),
    ("and", ("true",), ("mark", "m")), ("or", ("name", "x"), ("false",)), ("some", ("mark", "m")),
    ("all", ("name", "y")), ("least", "x", ("name", "x")), ("most", "y", ("some", ("name", "y")))]

REACH = ("least", "x", ("or", ("mark", "m"), ("some", ("name", "x"))))
STAY = ("most", "y", ("and", ("mark", "m"), ("all", ("name", "y"))))
OFTEN = ("most", "y", ("least", "x", ("or", ("and", ("mark", "m"), ("some", ("name", "y"))), ("some", ("name", "x")))))
SAME_NAME = ("least", "x", ("and", ("name", "x"), ("most", "x", ("or", ("name", "x"), ("mark", "x")))))
OPEN = ("or", ("name", "b"), ("least", "x", ("and", ("name", "x"), ("or", ("name", "a"), ("name", "b")))))

SAMPLES = KINDS + [REACH, STAY, OFTEN, SAME_NAME, OPEN]


def deep(many):
    """A closed formula that is `many` deep, with words of all kinds in one another."""
    formula = ("name", "x0")
    for level in range(many - 1, 0, -1):
        words = (
            ("some", formula), ("and", ("mark", "m"), formula), ("least", "x0", formula),
            ("or", formula, ("value", "1")), ("all", formula), ("most", f"y{level % 3}", formula))
        formula = words[(many - 1 - level) % 6] if level > 1 else ("most", "x0", formula)
    return formula


def depth(formula):
    inside = [part for part in formula[1:] if isinstance(part, tuple)]
    return 1 + max([depth(part) for part in inside], default=0)


def parts(formula):
    return 1 + sum(parts(part) for part in formula[1:] if isinstance(part, tuple))


def wide(levels):
    """A formula of 2 ** levels marks, all of which are different."""
    row = [("mark", f"m{k}") for k in range(2 ** levels)]
    words = ("and", "or")
    while len(row) > 1:
        row = [(words[k % 2], row[2 * k], row[2 * k + 1]) for k in range(len(row) // 2)]
    return row[0]


def only_tuples(formula):
    return isinstance(formula, tuple) and all(isinstance(part, str) or only_tuples(part) for part in formula)
