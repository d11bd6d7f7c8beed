"""What points 2 and 7 of the document say, word by word and slowly, to hold the lattices against."""

from itertools import product


def uppers(lattice, first, second):
    places = range(lattice.size)
    return [k for k in places if lattice.within_at(first, k) and lattice.within_at(second, k)]


def lowers(lattice, first, second):
    places = range(lattice.size)
    return [k for k in places if lattice.within_at(k, first) and lattice.within_at(k, second)]


def join(lattice, first, second):
    bounds = uppers(lattice, first, second)
    return next((k for k in bounds if all(lattice.within_at(k, b) for b in bounds)), None)


def meet(lattice, first, second):
    bounds = lowers(lattice, first, second)
    return next((k for k in bounds if all(lattice.within_at(b, k) for b in bounds)), None)


def bottom(lattice):
    places = range(lattice.size)
    return next((k for k in places if all(lattice.within_at(k, p) for p in places)), None)


def top(lattice):
    places = range(lattice.size)
    return next((k for k in places if all(lattice.within_at(p, k) for p in places)), None)


def irreducibles(lattice):
    found = []
    for place in range(lattice.size):
        others = [k for k in range(lattice.size) if k != place]
        joined = any(join(lattice, a, b) == place for a in others for b in others)
        if place != bottom(lattice) and not joined:
            found.append(place)
    return found


def fault(lattice):
    """Point 3, rule by rule."""
    places = range(lattice.size)

    def spread(a, b, c):
        spread_out = join(lattice, meet(lattice, a, b), meet(lattice, a, c))
        return meet(lattice, a, join(lattice, b, c)) == spread_out

    rules = (
        ("order", 2, lambda a, b: a == b or not (lattice.within_at(a, b) and lattice.within_at(b, a))),
        ("join", 2, lambda a, b: join(lattice, a, b) is not None),
        ("meet", 2, lambda a, b: meet(lattice, a, b) is not None),
        ("spread", 3, spread))
    for word, many, holds in rules:
        for row in product(places, repeat=many):
            if not holds(*row):
                return word, tuple(lattice.name_at(place) for place in row)
    return None


def names(lattice):
    return [lattice.name_at(place) for place in range(lattice.size)]


def check_as_defined(case, lattice):
    """Everything that point 7 tells, but for the label and the names, from within_at alone."""
    case.assertEqual(lattice.bottom_at, bottom(lattice))
    case.assertEqual(lattice.top_at, top(lattice))
    for first in range(lattice.size):
        case.assertIs(lattice.within_at(first, first), True)
        for second in range(lattice.size):
            case.assertIn(lattice.within_at(first, second), (True, False))
            case.assertIsInstance(lattice.within_at(first, second), bool)
            case.assertEqual(lattice.join_at(first, second), join(lattice, first, second))
            case.assertEqual(lattice.meet_at(first, second), meet(lattice, first, second))
    check_names(case, lattice)


def check_names(case, lattice):
    """Each name leads to its place and back, and no two places have one name."""
    case.assertEqual(len(set(names(lattice))), lattice.size)
    for place in range(lattice.size):
        case.assertIsInstance(lattice.name_at(place), str)
        case.assertEqual(lattice.at_name(lattice.name_at(place)), place)


def check_regular(case, lattice):
    """The rules of point 3, and what point 7 says of irreducible values in a regular lattice."""
    places = range(lattice.size)
    for a in places:
        for b in places:
            case.assertTrue(a == b or not (lattice.within_at(a, b) and lattice.within_at(b, a)))
            case.assertIsNotNone(lattice.join_at(a, b))
            case.assertIsNotNone(lattice.meet_at(a, b))
            for c in places:
                spread = lattice.join_at(lattice.meet_at(a, b), lattice.meet_at(a, c))
                case.assertEqual(lattice.meet_at(a, lattice.join_at(b, c)), spread)
    for a in places:
        whole = lattice.bottom_at
        for piece in lattice.irreducibles():
            if lattice.within_at(piece, a):
                whole = lattice.join_at(whole, piece)
        case.assertEqual(whole, a)
