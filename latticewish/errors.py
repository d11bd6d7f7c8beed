"""The errors of the package; each has its arguments as attributes of the same names."""


class LatticeError(ValueError):
    """Stands above the errors for what is not as it has to be."""


class BadLattice(LatticeError):
    """There is no such lattice."""

    def __init__(self):
        super().__init__("there is no such lattice")


class MixedLattices(LatticeError):
    """Things of different lattices were brought together."""

    def __init__(self):
        super().__init__("the lattices are not the same")


class BadText(LatticeError):
    """A text can not be read on from the index `at`."""

    def __init__(self, at):
        super().__init__(f"the text can not be read on from index {at}")
        self.at = at


class BadName(LatticeError):
    """What was handed in as a name is none."""

    def __init__(self, name):
        super().__init__(f"{name!r} is no name")
        self.name = name


class TwiceTold(LatticeError):
    """Something was told a second time."""

    def __init__(self, name):
        super().__init__(f"{name!r} is told twice")
        self.name = name


class NotIrreducible(LatticeError):
    """The value with this name is not irreducible."""

    def __init__(self, name):
        super().__init__(f"the value {name!r} is not irreducible")
        self.name = name


class BadMap(LatticeError):
    """A map does not have one image for each value of its source."""

    def __init__(self):
        super().__init__("the map has not one image for each value of its source")


class InUse(LatticeError):
    """What was to be dropped is still mentioned."""

    def __init__(self, name):
        super().__init__(f"{name!r} is still mentioned")
        self.name = name


class NameMissing(LookupError):
    """Stands above the errors for a name that nothing has."""


class UnknownValue(NameMissing):
    """No value of the lattice has this name."""

    def __init__(self, name):
        super().__init__(f"no value has the name {name!r}")
        self.name = name


class UnknownState(NameMissing):
    """No state has this name."""

    def __init__(self, name):
        super().__init__(f"no state has the name {name!r}")
        self.name = name


class UnboundName(NameMissing):
    """No binder around this name binds it."""

    def __init__(self, name):
        super().__init__(f"no binder binds the name {name!r}")
        self.name = name


class UnknownFormula(NameMissing):
    """No formula has this name."""

    def __init__(self, name):
        super().__init__(f"no formula has the name {name!r}")
        self.name = name
