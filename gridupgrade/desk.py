"""A desk that leads a fleet by lines of text."""

from gridupgrade.catalogs import is_name, path
from gridupgrade.errors import BadLine, BadText, NoFleet
from gridupgrade.fleets import Fleet
from gridupgrade.networks import sides
from gridupgrade.states import blockers
from gridupgrade.texts import format_schedule, parse_catalog, parse_network, parse_schedule
from gridupgrade.upgrades import fewest


def listed(words):
    """Return words with spaces between them, or a sign that there are none."""
    return " ".join(words) or "-"


def say_replace(fleet, service, release):
    """Make a replacement."""
    fleet.replace(service, release)
    return "ok"


def say_undo(fleet):
    """Take back the last call."""
    fleet.undo()
    return "ok"


def say_upgrade(fleet, end):
    """Make an upgrade; return the number of its replacements."""
    return str(fleet.upgrade(end))


def say_state(fleet):
    """Return the releases of all services."""
    return listed(fleet.state)


def say_log(fleet):
    """Return the text of the log."""
    return format_schedule(fleet.log())


def say_blockers(fleet, service, release):
    """Return the blockers of a replacement in the present state."""
    return listed(blockers(fleet.network, fleet.catalog, fleet.state, service, release))


def say_try(fleet, schedule):
    """Return the releases of all services after a schedule."""
    return listed(fleet.tried(schedule))


def say_fewest(network, catalog, start, end):
    """Return the least number of replacements of an upgrade."""
    return str(fewest(network, catalog, start, end))


def say_path(network, catalog, start, end):
    """Return the names of a path."""
    return listed(path(catalog, start, end))


def say_sides(network, catalog):
    """Return the two sides of the network."""
    return " / ".join([listed(side) for side in sides(network)])


# How many names stand behind the first word of a line.
NAMES = {
    "start": 1, "replace": 2, "undo": 0, "upgrade": 1, "state": 0, "log": 0, "blockers": 2,
    "fewest": 2, "path": 2, "sides": 0,
}
WITH_FLEET = {
    "replace": say_replace, "undo": say_undo, "upgrade": say_upgrade, "state": say_state, "log": say_log,
    "blockers": say_blockers, "try": say_try,
}
WITHOUT_FLEET = {"fewest": say_fewest, "path": say_path, "sides": say_sides}


def read_line(line):
    """Return the first word of a line and a tuple of what stands behind it."""
    if not isinstance(line, str):
        raise BadLine(line)
    word, _, rest = line.partition(" ")
    if word == "try":
        return word, (read_schedule(line, rest),)
    names = tuple(line.split(" ")[1:])
    if word not in NAMES or len(names) != NAMES[word] or not all([is_name(name) for name in names]):
        raise BadLine(line)
    return word, names


def read_schedule(line, text):
    """Return the schedule with the text that stands in a line."""
    try:
        return parse_schedule(text)
    except BadText:
        raise BadLine(line) from None


class Desk:
    """A desk for a network and a catalog, at first without a fleet."""

    def __init__(self, network_text, catalog_text):
        self._network = parse_network(network_text)
        self._catalog = parse_catalog(catalog_text)
        self._fleet = None

    def say(self, line):
        """Do what a line says, and return its result."""
        word, given = read_line(line)
        if word == "start":
            self._fleet = Fleet(self._network, self._catalog, given[0])
            return "ok"
        if word in WITHOUT_FLEET:
            action = WITHOUT_FLEET[word]
            return action(self._network, self._catalog, *given)
        if self._fleet is None:
            raise NoFleet()
        action = WITH_FLEET[word]
        return action(self._fleet, *given)
