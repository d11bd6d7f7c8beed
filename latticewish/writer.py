"""Formulas written as texts."""

from latticewish.formulas import parts_of, with_parts


def write_formula(formula):
    """The written form: one blank between neighbours, none beside parentheses otherwise."""
    if formula[0] in ("true", "false"):
        return formula[0]
    if formula[0] == "name":
        return formula[1]
    texts = []
    for part in parts_of(formula):
        texts.append(write_formula(part))
    return "(" + " ".join(with_parts(formula, texts)) + ")"
