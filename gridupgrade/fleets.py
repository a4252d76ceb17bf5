"""Live fleets, with undo and with a budget."""

from gridupgrade.catalogs import check_releases
from gridupgrade.errors import Blocked, Mixed, NothingToUndo, TooDear
from gridupgrade.prices import cheapest, price_of
from gridupgrade.states import blockers, run
from gridupgrade.upgrades import upgrade


class Fleet:
    """The services of a network with the releases that they run."""

    MOST_SERVICES = 12

    def __init__(self, network, catalog, start):
        check_releases(catalog, (start,))
        self._network = network
        self._catalog = catalog
        # For each call that was not undone the state after it and its replacements; ahead of them
        # the state at first. All of it is in tuples, so a situation is kept by keeping them.
        self._calls = (((start,) * len(network[0]), ()),)

    @property
    def network(self):
        """The network."""
        return self._network

    @property
    def catalog(self):
        """The catalog."""
        return self._catalog

    @property
    def state(self):
        """The present state."""
        return self._calls[-1][0]

    @property
    def made(self):
        """The number of replacements that were made and not undone."""
        return len(self.log())

    def __len__(self):
        return len(self._network[0])

    def __eq__(self, other):
        if not isinstance(other, Fleet):
            return False
        if self.network != other.network or self.catalog != other.catalog:
            return False
        return self.state == other.state and self.log() == other.log()

    def log(self):
        """Return all replacements that were made and not undone, in order."""
        return tuple([replacement for call in self._calls for replacement in call[1]])

    def replace(self, service, release):
        """Make a replacement."""
        self._check_possible(service, release)
        self._make(((service, release),))

    def upgrade(self, end):
        """Make an upgrade with the fewest replacements; return their number."""
        start = self._common_release(end)
        schedule = upgrade(self._network, self._catalog, start, end)
        self._make(schedule)
        return len(schedule)

    def tried(self, schedule):
        """Return the state to which a schedule would lead."""
        return run(self._network, self._catalog, self.state, schedule)

    def undo(self):
        """Take back the last call of replace or upgrade that was not undone."""
        if len(self._calls) == 1:
            raise NothingToUndo()
        self._calls = self._calls[:-1]

    def copy(self):
        """Return an independent fleet in the same situation."""
        fleet = Fleet(self._network, self._catalog, self.state[0])
        fleet._calls = self._calls
        return fleet

    def _check_possible(self, service, release):
        """Raise the error that tells why a replacement is not possible, if it is not."""
        refusing = blockers(self._network, self._catalog, self.state, service, release)
        if refusing:
            raise Blocked(refusing)

    def _common_release(self, end):
        """Return the release that all services run; raise the errors that come ahead of those of upgrades."""
        check_releases(self._catalog, (end,))
        present = self.state
        if present != present[:1] * len(present):
            raise Mixed(present)
        return present[0]

    def _make(self, schedule):
        """Make the replacements of one call, all of which are possible."""
        self._calls = self._calls + ((self.tried(schedule), schedule),)


class PricedFleet(Fleet):
    """A fleet whose replacements have prices and that spends no more than its budget."""

    def __init__(self, network, catalog, start, *, prices=(), budget=None):
        super().__init__(network, catalog, start)
        self._prices = prices
        self._budget = budget

    @property
    def prices(self):
        """The prices that were given."""
        return self._prices

    @property
    def budget(self):
        """The budget that was given; None is no limit."""
        return self._budget

    @property
    def spent(self):
        """The price of the log."""
        return price_of(self.log(), self._prices)

    def replace(self, service, release):
        """Make a replacement, if the budget allows it."""
        self._check_possible(service, release)
        schedule = ((service, release),)
        self._check_budget(schedule)
        self._make(schedule)

    def upgrade(self, end):
        """Make an upgrade with the least price, if the budget allows it; return the number of replacements."""
        start = self._common_release(end)
        schedule = cheapest(self._network, self._catalog, start, end, self._prices)
        self._check_budget(schedule)
        self._make(schedule)
        return len(schedule)

    def copy(self):
        """Return an independent priced fleet in the same situation."""
        fleet = PricedFleet(
            self._network, self._catalog, self.state[0], prices=self._prices, budget=self._budget)
        fleet._calls = self._calls
        return fleet

    def _check_budget(self, schedule):
        """Raise TooDear if more than the budget would be spent after a schedule."""
        price = price_of(schedule, self._prices)
        if self._budget is not None and self.spent + price > self._budget:
            raise TooDear(price)


class Beginning:
    """What a fleet was when a block of a trial began, and the beginning of the block around it."""

    def __init__(self, calls, outer):
        self.calls = calls
        self.outer = outer


class Trial:
    """A context manager: when the block ends, the fleet is as it was when the block began."""

    def __init__(self, fleet):
        self._fleet = fleet
        self._beginning = None

    def __enter__(self):
        # One trial may be used for a block within a block.
        self._beginning = Beginning(self._fleet._calls, self._beginning)
        return self._fleet

    def __exit__(self, kind, value, trace):
        fleet = self._fleet
        fleet._calls = self._beginning.calls
        self._beginning = self._beginning.outer


def rehearsed(fleet, steps):
    """Return what the function steps returns for the fleet, which afterwards is as it was."""
    with Trial(fleet) as held:
        return steps(held)
