"""The errors of the package, one class for each kind of failure."""


class InvalidNumber(ValueError):
    """A thing that is not a whole number within the limits of its argument."""

    def __init__(self, number):
        self.number = number

    def __str__(self):
        # The number may be any thing, also one that can't be written, so the message leaves it out.
        return "not a whole number that may stand here"


class InvalidFilling(ValueError):
    """A thing that is not a list of 1 to 40 whole numbers."""

    def __init__(self, index):
        self.index = index

    def __str__(self):
        return f"no filling (index {self.index})"


class InvalidFamily(ValueError):
    """A thing that is not a list of chains that have no place in common."""

    def __init__(self, chain, index):
        self.chain = chain
        self.index = index

    def __str__(self):
        return f"no family (chain {self.chain}, index {self.index})"


class InvalidRow(ValueError):
    """A thing that is not a list of families."""

    def __init__(self, family, chain, index):
        self.family = family
        self.chain = chain
        self.index = index

    def __str__(self):
        return f"no row of families (family {self.family}, chain {self.chain}, index {self.index})"


class NotKept(ValueError):
    """Families that do not all keep one another."""

    def __init__(self, one, two):
        self.one = one
        self.two = two

    def __str__(self):
        return f"family {self.one} does not keep family {self.two}"


class NothingToUndo(LookupError):
    """No deed is left that could be taken back."""
