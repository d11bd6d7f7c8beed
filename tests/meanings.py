"""What points 13 to 16 say, word by word and slowly, to hold the package against."""

FIRST = {"least": "bottom_at", "most": "top_at"}


def meaning(system, formula, now=None):
    """Point 13: the place of the formula's value, for each state; `now` has the values of the names around it."""
    lattice, now, word = system.lattice, now or {}, formula[0]
    if word == "true":
        return {state: lattice.top_at for state in system.states()}
    if word == "false":
        return {state: lattice.bottom_at for state in system.states()}
    if word == "value":
        return {state: lattice.at_name(formula[1]) for state in system.states()}
    if word == "mark":
        told = {(mark, state): lattice.at_name(name) for mark, state, name in system.marks()}
        return {state: told.get((formula[1], state), lattice.bottom_at) for state in system.states()}
    if word == "name":
        return now[formula[1]]
    if word in ("and", "or"):
        one, other = meaning(system, formula[1], now), meaning(system, formula[2], now)
        both = lattice.meet_at if word == "and" else lattice.join_at
        return {state: both(one[state], other[state]) for state in system.states()}
    if word in ("some", "all"):
        inner = meaning(system, formula[1], now)
        return {state: over_arrows(system, word, inner, state) for state in system.states()}
    return all_rounds(system, formula, now)[-1]


def over_arrows(system, word, inner, state):
    lattice = system.lattice
    found = lattice.bottom_at if word == "some" else lattice.top_at
    for start, end, has, lacks in system.arrows():
        if start == state and word == "some":
            found = lattice.join_at(found, lattice.meet_at(lattice.at_name(has), inner[end]))
        elif start == state:
            found = lattice.meet_at(found, lattice.join_at(lattice.at_name(lacks), inner[end]))
    return found


def all_rounds(system, formula, now=None):
    """The values of each round of a least or most, up to the first one that nothing follows any more."""
    word, name, part = formula
    begin = getattr(system.lattice, FIRST[word])
    found = [{state: begin for state in system.states()}]
    while True:
        following = meaning(system, part, {**(now or {}), name: found[-1]})
        if following == found[-1]:
            return found
        found.append(following)


def names_of(system, places):
    return {state: system.lattice.name_at(place) for state, place in places.items()}


def part_at(formula, place):
    for number in place:
        formula = inside(formula)[number]
    return formula


def inside(formula):
    return [part for part in formula[1:] if isinstance(part, tuple)]


def places_of(formula):
    """All places of a formula, in no certain order."""
    found = [()]
    for number, part in enumerate(inside(formula)):
        found += [(number,) + place for place in places_of(part)]
    return found


def binders(formula, place):
    """The places of the binders that enclose the place, the outermost first."""
    return [place[:k] for k in range(len(place)) if part_at(formula, place[:k])[0] in ("least", "most")]


def next_positions(system, formula, j, position):
    """Point 15: the positions that follow a position, each with the choice that leads to it."""
    lattice, (state, place) = system.lattice, position
    part = part_at(formula, place)
    word = part[0]
    if word == "name":
        binder = [at for at in binders(formula, place) if part_at(formula, at)[1] == part[1]][-1]
        return {None: (state, binder + (0,))}
    if word in ("least", "most"):
        return {None: (state, place + (0,))}
    if word in ("or", "and"):
        return {0: (state, place + (0,)), 1: (state, place + (1,))}
    found = {}
    for start, end, has, lacks in system.arrows():
        if start == state and word == "some" and lattice.within_at(j, lattice.at_name(has)):
            found[end] = (end, place + (0,))
        if start == state and word == "all" and not lattice.within_at(j, lattice.at_name(lacks)):
            found[end] = (end, place + (0,))
    return found


def is_right(system, formula, state, name, paper):
    """Point 16, condition by condition."""
    side, lines = paper
    j = system.lattice.at_name(name)
    if side not in ("yes", "no"):
        return False
    if any(line[0] not in system.states() or line[1] not in places_of(formula) for line in lines):
        return False
    keys = [(system.states().index(line[0]), line[1]) for line in lines]
    if keys != sorted(set(keys)) or (state, ()) not in [line[:2] for line in lines]:
        return False
    if any(len(ranks) != len(binders(formula, place)) for _, place, ranks, _ in lines):
        return False
    if any(rank < 0 for _, _, ranks, _ in lines for rank in ranks):
        return False
    return all(line_is_right(system, formula, j, side, lines, line) for line in lines)


def line_is_right(system, formula, j, side, lines, line):
    state, place, ranks, choice = line
    part = part_at(formula, place)
    if part[0] in ("true", "false", "value", "mark"):
        value = meaning(system, part)[state]
        return choice is None and system.lattice.within_at(j, value) == (side == "yes")
    nexts = next_positions(system, formula, j, (state, place))
    if part[0] in {"yes": ("or", "some"), "no": ("and", "all")}[side]:
        if choice is None or choice not in nexts:
            return False
        nexts = {choice: nexts[choice]}
    elif choice is not None:
        return False
    known = {other[:2]: other[2] for other in lines}
    return all(to in known and falls(formula, side, place, ranks, known[to]) for to in nexts.values())


def falls(formula, side, place, before, behind):
    part = part_at(formula, place)
    if part[0] != "name":
        return behind[:len(before)] <= before
    around = [part_at(formula, at) for at in binders(formula, place)]
    number = max(k for k, binder in enumerate(around) if binder[1] == part[1]) + 1
    if (around[number - 1][0], side) in (("least", "yes"), ("most", "no")):
        return behind[:number] < before[:number]
    return behind[:number] <= before[:number]
