"""The errors of the package."""


class UpgradeError(ValueError):
    """The base class of all errors of the package.

    The messages never show the values: an integer of very many digits cannot be written out.
    """


class NoRelease(UpgradeError):
    """A value is not the name of a release of the catalog."""

    def __init__(self, value):
        super().__init__("not the name of a release of the catalog")
        self.value = value


class NoService(UpgradeError):
    """A value is not one of the services of the network."""

    def __init__(self, value):
        super().__init__("not one of the services of the network")
        self.value = value


class Unreachable(UpgradeError):
    """No steps lead from the first release to the last one, only to the named ones."""

    def __init__(self, names):
        super().__init__("the release cannot be reached")
        self.names = names


class NotTwoSided(UpgradeError):
    """The network has an odd cycle."""

    def __init__(self, cycle):
        super().__init__("the network has an odd cycle")
        self.cycle = cycle


class TooLarge(UpgradeError):
    """There are more things than the limit allows."""

    def __init__(self, limit):
        super().__init__("the limit is passed")
        self.limit = limit


class BadSchedule(UpgradeError):
    """A value is not a schedule for the network and the catalog."""

    def __init__(self, value):
        super().__init__("not a schedule for the network and the catalog")
        self.value = value


class NotPossible(UpgradeError):
    """The replacement with this index is not possible."""

    def __init__(self, index):
        super().__init__("a replacement is not possible")
        self.index = index


class NotUpgrade(UpgradeError):
    """A value is not an upgrade between the two releases."""

    def __init__(self, value):
        super().__init__("not an upgrade between the two releases")
        self.value = value


class BadPath(UpgradeError):
    """A value is not a shortest path from release to release."""

    def __init__(self, value):
        super().__init__("not a shortest path from release to release")
        self.value = value


class BadSkips(UpgradeError):
    """A value is not an apart set for the distance."""

    def __init__(self, value):
        super().__init__("not an apart set for the distance")
        self.value = value


class BadPrice(UpgradeError):
    """A keyword is not a name, or its value is not a price."""

    def __init__(self, name):
        super().__init__("a keyword is not a name, or its value is not a price")
        self.name = name


class NotWave(UpgradeError):
    """A value is not a wave of the state."""

    def __init__(self, value):
        super().__init__("not a wave of the state")
        self.value = value


class BadState(UpgradeError):
    """A value is not a valid state."""

    def __init__(self, value):
        super().__init__("not a valid state")
        self.value = value


class Blocked(UpgradeError):
    """Neighbours run releases that are not compatible with the new one."""

    def __init__(self, services):
        super().__init__("neighbours block the replacement")
        self.services = services


class Mixed(UpgradeError):
    """Not all services run the same release in the present state."""

    def __init__(self, present):
        super().__init__("not all services run the same release")
        self.present = present


class TooDear(UpgradeError):
    """The price is more than the budget still allows."""

    def __init__(self, price):
        super().__init__("the budget does not allow the price")
        self.price = price


class NothingToUndo(UpgradeError):
    """There is no call to undo."""


class BadText(UpgradeError):
    """A value is not the text of what is asked for."""

    def __init__(self, value):
        super().__init__("not such a text")
        self.value = value


class BadLine(UpgradeError):
    """A line is not of a form that the desk knows."""

    def __init__(self, line):
        super().__init__("not a line for the desk")
        self.line = line


class NoFleet(UpgradeError):
    """The desk has no fleet yet."""
