"""Searches of small cases, with odd cycles as well, and between any two states."""

from gridupgrade.catalogs import check_releases, release_links
from gridupgrade.errors import BadState, TooLarge
from gridupgrade.grids import nodes, upgrade_way
from gridupgrade.matchings import grid_links
from gridupgrade.networks import talk_links, talking
from gridupgrade.states import is_valid, refusing, running_releases
from gridupgrade.upgrades import lone_replacements

MOST_NODES = 16
MOST_SMALL_SERVICES = 4
MOST_SMALL_RELEASES = 5


def greatest_any(network, distance):
    """Return an apart set with as many nodes as possible, in any network with a small grid."""
    grid = nodes(network, distance)
    if len(grid) > MOST_NODES:
        raise TooLarge(MOST_NODES)
    return greatest_among(grid_links(network, distance), grid)


def greatest_among(links, free):
    """Return as many of the free nodes as possible, no two of which are adjacent, in their order."""
    if not free:
        return ()
    node, rest = free[0], free[1:]
    others = tuple([other for other in rest if other not in links[node]])
    found = (node,) + greatest_among(links, others)
    if len(others) == len(rest):
        return found
    return max([found, greatest_among(links, rest)], key=len)


def fewest_any(network, catalog, start, end):
    """Return the least number of replacements of an upgrade, in any network with a small grid."""
    check_releases(catalog, (start, end))
    way = upgrade_way(network, catalog, start, end)
    steps = len(way) - 1
    skipped = greatest_any(network, steps)
    return len(lone_replacements(network, way)) + steps * len(talking(network)) - len(skipped)


def search(network, catalog, state, goal):
    """Return a schedule with as few replacements as possible that leads from state to goal, or None."""
    if len(network[0]) > MOST_SMALL_SERVICES:
        raise TooLarge(MOST_SMALL_SERVICES)
    if len(catalog) > MOST_SMALL_RELEASES:
        raise TooLarge(MOST_SMALL_RELEASES)
    for value in (state, goal):
        if not is_valid(network, catalog, value):
            raise BadState(value)
    return schedule_to(last_steps(network, catalog, state), goal)


def last_steps(network, catalog, start):
    """Return for each state that can be reached the state before it on a shortest way, and the replacement."""
    around = talk_links(network)
    links = release_links(catalog)
    last = {start: None}
    row = [start]
    while row:
        found = {}
        for state in row:
            for replacement, after in next_states(around, links, running_releases(network, state)):
                if after not in last:
                    found[after] = (state, replacement)
        last.update(found)
        row = list(found)
    return last


def next_states(around, links, running):
    """Return each replacement that is possible, with the state after it."""
    return [
        ((service, release), tuple({**running, service: release}.values()))
        for service in running
        for release in links
        if not refusing(around[service], running, links[release])
    ]


def schedule_to(last, goal):
    """Return the replacements that lead to the goal, or None if none do."""
    if goal not in last:
        return None
    found = []
    step = last[goal]
    while step is not None:
        before, replacement = step
        found.append(replacement)
        step = last[before]
    return tuple(found[::-1])
