"""Papers that the tests make themselves, out of the rounds of point 13."""

from tests.meanings import all_rounds, binders, inside, meaning, next_positions, part_at

CHOOSES = {"yes": ("or", "some"), "no": ("and", "all")}
FALLS = {"yes": "least", "no": "most"}


def ranked(system, formula, side, place=(), now=None, ranks=()):
    """All places with all ranks in ascending order, each beside the values there.

    A rank is the number of the round whose values the name of its binder has, or 0 where it does not have to fall.
    """
    part = part_at(formula, place)
    yield place, ranks, meaning(system, part, now)
    if part[0] in ("least", "most"):
        found = all_rounds(system, part, now)
        if part[0] != FALLS[side]:
            found = found[-1:]
        for number, values in enumerate(found):
            yield from ranked(system, formula, side, place + (0,), {**(now or {}), part[1]: values}, ranks + (number,))
    else:
        for number in range(len(inside(part))):
            yield from ranked(system, formula, side, place + (number,), now, ranks)


def least_ranks(system, formula, j, side):
    """For each position that the side holds, the least ranks with which it does."""
    found = {}
    for place, ranks, values in ranked(system, formula, side):
        for state in system.states():
            if system.lattice.within_at(j, values[state]) == (side == "yes"):
                best = found.get((state, place), ranks)
                found[state, place] = min(best, ranks)
    return found


def lines_of(system, formula, j, side):
    """A line for each position that the side holds, in order."""
    held = least_ranks(system, formula, j, side)
    lines = []
    for state, place in sorted(held, key=lambda position: (system.states().index(position[0]), position[1])):
        part = part_at(formula, place)
        choice = None
        if part[0] in CHOOSES[side]:
            count = len(binders(formula, place))
            nexts = next_positions(system, formula, j, (state, place))
            choice = min([key for key in nexts if nexts[key] in held], key=lambda key: held[nexts[key]][:count])
        lines.append((state, place, held[state, place], choice))
    return lines


def reached(system, formula, j, side, lines, state):
    """Those of the lines that can come from the state when the side makes the choices that they tell."""
    known = {line[:2]: line for line in lines}
    found, waiting = [], [(state, ())]
    while waiting:
        position = waiting.pop()
        if position not in found:
            found.append(position)
            choice = known[position][3]
            part = part_at(formula, position[1])
            if part[0] not in ("true", "false", "value", "mark"):
                nexts = next_positions(system, formula, j, position)
                waiting += [nexts[choice]] if part[0] in CHOOSES[side] else list(nexts.values())
    return [line for line in lines if line[:2] in found]


def right_side(system, formula, j, state):
    return "yes" if system.lattice.within_at(j, meaning(system, formula)[state]) else "no"


def own_paper(system, formula, state, name):
    """A paper with lines only for positions that can come."""
    j = system.lattice.at_name(name)
    side = right_side(system, formula, j, state)
    return side, reached(system, formula, j, side, lines_of(system, formula, j, side), state)


def full_paper(system, formula, state, name):
    """A paper with a line for each position that its side holds."""
    j = system.lattice.at_name(name)
    side = right_side(system, formula, j, state)
    return side, lines_of(system, formula, j, side)


def with_line(paper, number, line):
    return paper[0], paper[1][:number] + [line] + paper[1][number + 1:]


def stretched(paper, by, more):
    """The paper with other ranks, which are ordered as before."""
    return paper[0], [(state, place, tuple(rank * by + more for rank in ranks), choice)
                      for state, place, ranks, choice in paper[1]]
