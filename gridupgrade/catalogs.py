"""Releases, catalogs, and the ways from release to release."""

from gridupgrade.basics import is_ascending, is_integer, layers, least_linked
from gridupgrade.errors import NoRelease, Unreachable

MOST_LETTERS = 8
MOST_VERSIONS = 8
HIGHEST_VERSION = 10 ** 9
MOST_RELEASES = 12


def is_name(value):
    """Return whether any value is a name."""
    if not isinstance(value, str) or not 1 <= len(value) <= MOST_LETTERS:
        return False
    return all(["a" <= letter <= "z" for letter in value])


def is_release(value):
    """Return whether any value is a release."""
    return isinstance(value, tuple) and len(value) == 2 and is_name(value[0]) and are_versions(value[1])


def is_catalog(value):
    """Return whether any value is a catalog."""
    if not isinstance(value, tuple) or not 1 <= len(value) <= MOST_RELEASES:
        return False
    # Ascending names also mean ascending releases, and no name twice.
    return all([is_release(release) for release in value]) and is_ascending(release_names(value))


def are_versions(value):
    """Return whether any value is the versions of a release."""
    if not isinstance(value, tuple) or not 1 <= len(value) <= MOST_VERSIONS:
        return False
    return all([is_version(version) for version in value]) and is_ascending(value)


def is_version(value):
    """Return whether any value is a version of the protocol."""
    return is_integer(value) and 0 <= value <= HIGHEST_VERSION


def release_names(catalog):
    """Return the names of all releases of a catalog, ascending."""
    return tuple([release[0] for release in catalog])


def check_releases(catalog, values):
    """Raise NoRelease with the first of the values that is not the name of a release."""
    names = release_names(catalog)
    for value in values:
        if value not in names:
            raise NoRelease(value)


def release_links(catalog):
    """Return for the name of each release the names of those that are compatible with it."""
    return {
        name: [other for other, spoken in catalog if have_common(versions, spoken)]
        for name, versions in catalog
    }


def have_common(versions, others):
    """Return whether a version stands in both tuples."""
    return any([version in others for version in versions])


def compatible(catalog, one, other):
    """Return whether two releases are compatible."""
    check_releases(catalog, (one, other))
    versions = dict(catalog)
    return have_common(versions[one], versions[other])


def distance(catalog, start, end):
    """Return the least number of steps from start to end, or None if none lead there."""
    check_releases(catalog, (start, end))
    return level_of(levels(catalog, start), end)


def reachable(catalog, start):
    """Return the names of all releases that have a distance from start, ascending."""
    return tuple(sorted([name for level in levels(catalog, start) for name in level]))


def levels(catalog, start):
    """Return the names of all releases that have a distance from start, a tuple for each level."""
    check_releases(catalog, (start,))
    return tuple(layers(release_links(catalog), start))


def path(catalog, start, end):
    """Return the first one, in ascending order, of the shortest ways from start to end."""
    check_releases(catalog, (start, end))
    return shortest_way(catalog, start, end)


def shortest_way(catalog, start, end):
    """Return the path from one release to another one, or raise Unreachable."""
    links = release_links(catalog)
    # Seen from the end, each step of a shortest way goes one layer down; so the least name of
    # that layer is the best one, whatever follows.
    remaining = layers(links, end)
    steps = level_of(remaining, start)
    if steps is None:
        raise Unreachable(reachable(catalog, start))
    names = [start]
    for layer in reversed(remaining[:steps]):
        names.append(least_linked(links, names[-1], layer))
    return tuple(names)


def is_shortest_way(catalog, value):
    """Return whether any value is a path from release to release with as few steps as possible."""
    if not isinstance(value, tuple) or not value:
        return False
    links = release_links(catalog)
    names = release_names(catalog)
    if not all([name in names for name in value]):
        return False
    if not all([following in links[name] for name, following in zip(value, value[1:])]):
        return False
    return len(value) == len(shortest_way(catalog, value[0], value[-1]))


def level_of(rows, name):
    """Return the number of the row that has the name, or None if none has it."""
    for number, row in enumerate(rows):
        if name in row:
            return number
    return None
