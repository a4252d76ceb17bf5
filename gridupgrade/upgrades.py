"""Upgrades with the fewest replacements, and the evidence that there are no fewer."""

from gridupgrade.catalogs import check_releases, is_shortest_way
from gridupgrade.errors import BadPath, BadSkips
from gridupgrade.grids import is_apart, is_matching, is_upgrade, upgrade_way
from gridupgrade.matchings import greatest_apart, greatest_matching
from gridupgrade.networks import check_two_sided, lone, talking


def fewest(network, catalog, start, end):
    """Return the least number of replacements of an upgrade."""
    matching = evidence(network, catalog, start, end)
    if start == end:
        return 0
    return len(network[0]) + len(matching)


def upgrade(network, catalog, start, end):
    """Return an upgrade with as few replacements as possible."""
    way = checked_way(network, catalog, start, end)
    return schedule_along(network, way, greatest_apart(network, len(way) - 1))


def evidence(network, catalog, start, end):
    """Return a greatest matching of the grid of the distance."""
    way = checked_way(network, catalog, start, end)
    return greatest_matching(network, len(way) - 1)


def checked_way(network, catalog, start, end):
    """Return the releases that an upgrade may run in turn; raise the errors in their sequence."""
    check_releases(catalog, (start, end))
    check_two_sided(network)
    return upgrade_way(network, catalog, start, end)


def shows_fewest(network, catalog, start, end, value):
    """Return whether any value is an upgrade and a matching that shows that none has fewer replacements."""
    check_releases(catalog, (start, end))
    if start == end:
        return value == ((), ())
    if not isinstance(value, tuple) or len(value) != 2:
        return False
    schedule, matching = value
    if not is_upgrade(network, catalog, start, end, schedule):
        return False
    # There is an upgrade, so there is a way as well.
    steps = len(upgrade_way(network, catalog, start, end)) - 1
    return is_matching(network, steps, matching) and len(schedule) == len(network[0]) + len(matching)


def schedule_with(network, catalog, path, apart):
    """Return the upgrade along a path in which the services skip just the nodes of an apart set."""
    if not is_shortest_way(catalog, path):
        raise BadPath(path)
    if not is_apart(network, len(path) - 1, apart):
        raise BadSkips(apart)
    return schedule_along(network, path, apart)


def schedule_along(network, way, apart):
    """Return the replacements, level by level, of the services that do not skip the level."""
    found = [replacement for stage in stages(network, way, apart) for replacement in stage]
    return tuple(found + lone_replacements(network, way))


def stages(network, way, apart):
    """Return for each level the replacements of services that skipped the one before, and those of others."""
    services = talking(network)
    found = []
    for level in range(1, len(way)):
        late = [service for service in services if (service, level - 1) in apart]
        # Who did not skip the level before runs its release; nobody skips two levels in a row.
        ready = [service for service in services if service not in late and (service, level) not in apart]
        found.extend([[(service, way[level]) for service in group] for group in (late, ready)])
    return found


def lone_replacements(network, way):
    """Return the replacements of the lone services, which go to the end in one step."""
    if len(way) == 1:
        return []
    return [(service, way[-1]) for service in lone(network)]
