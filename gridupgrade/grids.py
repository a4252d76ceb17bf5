"""The levels that services can skip in an upgrade: the nodes of a grid."""

from gridupgrade.basics import is_ascending, is_integer
from gridupgrade.catalogs import check_releases, levels, shortest_way
from gridupgrade.errors import BadSchedule, NotPossible, NotUpgrade
from gridupgrade.networks import do_talk, talking
from gridupgrade.states import run


def nodes(network, distance):
    """Return all nodes of the grid, ascending."""
    return tuple([(service, level) for service in talking(network) for level in range(1, distance)])


def is_node(services, distance, value):
    """Return whether any value is a node; services are those that are not lone."""
    if not isinstance(value, tuple) or len(value) != 2:
        return False
    service, level = value
    # True equals 1, but is no level.
    return service in services and is_integer(level) and 1 <= level < distance


def are_adjacent(network, one, other):
    """Return whether two nodes are adjacent."""
    if one[1] == other[1]:
        return do_talk(network, one[0], other[0])
    return one[0] == other[0] and abs(one[1] - other[1]) == 1


def is_apart(network, distance, value):
    """Return whether any value is an apart set."""
    services = talking(network)
    if not isinstance(value, tuple) or not all([is_node(services, distance, node) for node in value]):
        return False
    if not is_ascending(value):
        return False
    return not any([are_adjacent(network, one, other) for one in value for other in value])


def is_matching(network, distance, value):
    """Return whether any value is a matching."""
    services = talking(network)
    if not isinstance(value, tuple) or not all([is_pair(services, distance, pair) for pair in value]):
        return False
    if not is_ascending(value) or not all([are_adjacent(network, one, other) for one, other in value]):
        return False
    return len({node for pair in value for node in pair}) == 2 * len(value)


def is_pair(services, distance, value):
    """Return whether any value is a pair of two nodes, the lesser one first."""
    if not isinstance(value, tuple) or len(value) != 2:
        return False
    return all([is_node(services, distance, node) for node in value]) and value[0] < value[1]


def is_upgrade(network, catalog, start, end, value):
    """Return whether any value is an upgrade from one release to another one."""
    many = len(network[0])
    try:
        reached = run(network, catalog, (start,) * many, value)
    except (BadSchedule, NotPossible):
        return False
    return reached == (end,) * many


def upgrade_way(network, catalog, start, end):
    """Return the releases from start to end that the services of an upgrade may run in turn.

    Raises Unreachable if some services talk and end cannot be reached.
    """
    if not network[1] and start != end:
        # Nobody is in the way of a lone service: it goes to any release in one step.
        return start, end
    return shortest_way(catalog, start, end)


def skips(network, catalog, start, end, schedule):
    """Return the (service, level) that services skip in an upgrade, ascending."""
    check_releases(catalog, (start, end))
    if not is_upgrade(network, catalog, start, end, schedule):
        raise NotUpgrade(schedule)
    steps = len(upgrade_way(network, catalog, start, end)) - 1
    level = {name: number for number, row in enumerate(levels(catalog, start)) for name in row}
    # A lone service may run a release that has no level; its nodes do not count anyway.
    passed = [(service, level.get(release)) for service, release in schedule]
    return tuple([node for node in nodes(network, steps) if node not in passed])
