"""Claims: cash and units to be handed over at each node of the last step."""


class Claim:
    """Whole numbers of cash and of units, by rising nodes of the last step."""

    def __init__(self, cash, units):
        self.cash = cash
        self.units = units


def empty_claim(steps):
    """The claim that asks for nothing, on a tree of so many steps."""
    return Claim([0] * (steps + 1), [0] * (steps + 1))


def turned(claim):
    """The claim with all its numbers times -1."""
    return Claim([-cash for cash in claim.cash], [-units for units in claim.units])


def together(one, other):
    """The claim that asks for what both ask for."""
    cash = [x + y for x, y in zip(one.cash, other.cash)]
    units = [x + y for x, y in zip(one.units, other.units)]
    return Claim(cash, units)
