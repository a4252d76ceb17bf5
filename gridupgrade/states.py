"""Which release each service runs, and what replacements make of it."""

from gridupgrade.catalogs import check_releases, release_links, release_names
from gridupgrade.errors import BadSchedule, NotPossible
from gridupgrade.networks import neighbours, talk_links

MOST_REPLACEMENTS = 400


def is_state(network, catalog, value):
    """Return whether any value is a state."""
    if not isinstance(value, tuple) or len(value) != len(network[0]):
        return False
    names = release_names(catalog)
    return all([release in names for release in value])


def is_valid(network, catalog, value):
    """Return whether any value is a valid state."""
    return is_state(network, catalog, value) and not conflicts(network, catalog, value)


def conflicts(network, catalog, state):
    """Return the talks whose services do not run compatible releases, ascending."""
    links = release_links(catalog)
    running = running_releases(network, state)
    return tuple([pair for pair in network[1] if running[pair[0]] not in links[running[pair[1]]]])


def running_releases(network, state):
    """Return for each service, in their order, the release that it runs."""
    return dict(zip(network[0], state))


def blockers(network, catalog, state, service, release):
    """Return the neighbours of the service that run no release compatible with this one, ascending."""
    around = neighbours(network, service)
    check_releases(catalog, (release,))
    return tuple(refusing(around, running_releases(network, state), release_links(catalog)[release]))


def refusing(around, running, fitting):
    """Return those of the services around that run none of the fitting releases."""
    return [other for other in around if running[other] not in fitting]


def is_schedule(network, catalog, value):
    """Return whether any value is a schedule with services of the network and releases of the catalog."""
    if not isinstance(value, tuple) or len(value) > MOST_REPLACEMENTS:
        return False
    names = release_names(catalog)
    return all([is_replacement(network[0], names, replacement) for replacement in value])


def is_replacement(services, names, value):
    """Return whether any value is a replacement of one of the services by one of the named releases."""
    return isinstance(value, tuple) and len(value) == 2 and value[0] in services and value[1] in names


def run(network, catalog, state, schedule):
    """Return the state to which a schedule leads from a valid state."""
    if not is_schedule(network, catalog, schedule):
        raise BadSchedule(schedule)
    around = talk_links(network)
    links = release_links(catalog)
    running = running_releases(network, state)
    for index, (service, release) in enumerate(schedule):
        if refusing(around[service], running, links[release]):
            raise NotPossible(index)
        running[service] = release
    return tuple(running.values())


def walk(network, catalog, state, schedule):
    """Yield the state, then the state after each replacement of a schedule that leads from it."""
    running = running_releases(network, state)
    yield state
    for service, release in schedule:
        running[service] = release
        yield tuple(running.values())
