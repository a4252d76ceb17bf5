"""Services, who talks to whom, and whether two sides suffice."""

from gridupgrade.basics import is_ascending, layers, least_linked
from gridupgrade.catalogs import is_name
from gridupgrade.errors import NoService, NotTwoSided, TooLarge

MOST_SERVICES = 12
MOST_TALKS = 40


def is_network(value):
    """Return whether any value is a network."""
    if not isinstance(value, tuple) or len(value) != 2:
        return False
    services, talks = value
    return are_services(services) and are_talks(services, talks)


def are_services(value):
    """Return whether any value is the services of a network."""
    if not isinstance(value, tuple) or not 1 <= len(value) <= MOST_SERVICES:
        return False
    return all([is_name(service) for service in value]) and is_ascending(value)


def are_talks(services, value):
    """Return whether any value is the talks of a network with these services."""
    if not isinstance(value, tuple) or len(value) > MOST_TALKS:
        return False
    return all([is_talk(services, pair) for pair in value]) and is_ascending(value)


def is_talk(services, value):
    """Return whether any value is a pair of two of the services, the lesser one first."""
    if not isinstance(value, tuple) or len(value) != 2:
        return False
    # A value that is one of the services is a string, so only strings are compared.
    return value[0] in services and value[1] in services and value[0] < value[1]


def do_talk(network, one, other):
    """Return whether two services talk."""
    return (one, other) in network[1] or (other, one) in network[1]


def talk_links(network):
    """Return for each service its neighbours."""
    services = network[0]
    return {
        service: [other for other in services if do_talk(network, service, other)]
        for service in services
    }


def neighbours(network, service):
    """Return the neighbours of a service, ascending."""
    if service not in network[0]:
        raise NoService(service)
    return tuple(talk_links(network)[service])


def lone(network):
    """Return the services without neighbours, ascending."""
    links = talk_links(network)
    return tuple([service for service in network[0] if not links[service]])


def talking(network):
    """Return the services that are not lone, ascending."""
    links = talk_links(network)
    return tuple([service for service in network[0] if links[service]])


def parts(network):
    """Return the parts of a network: services that lead to each other by neighbours."""
    found = []
    for rows in part_layers(network):
        found.append(tuple(sorted([service for row in rows for service in row])))
    return tuple(found)


def part_layers(network):
    """Return for each part its services by their number of steps from its least service."""
    links = talk_links(network)
    seen = {}
    found = []
    for service in network[0]:
        if service not in seen:
            rows = layers(links, service)
            found.append(rows)
            seen.update({name: True for row in rows for name in row})
    return found


def odd_cycle(network):
    """Return an odd cycle, or None if there is none."""
    for rows in part_layers(network):
        for number, row in enumerate(rows):
            # Talks between different rows join an even row and an odd one; so only a talk
            # within a row is a part of an odd cycle that can be closed over the rows above.
            for one, other in network[1]:
                if one in row and other in row:
                    return closed_cycle(network, rows[:number], one, other)
    return None


def closed_cycle(network, rows, one, other):
    """Return the cycle of a talk and of the ways up the rows to where its services first meet."""
    links = talk_links(network)
    left, right = [one], [other]
    for row in reversed(rows):
        left.append(least_linked(links, left[-1], row))
        right.append(least_linked(links, right[-1], row))
        if left[-1] == right[-1]:
            break
    return tuple(left + right[:-1][::-1])


def shows_odd_cycle(network, value):
    """Return whether any value is an odd cycle."""
    if not isinstance(value, tuple) or len(value) < 3 or len(value) % 2 == 0:
        return False
    if not all([service in network[0] for service in value]) or len(set(value)) != len(value):
        return False
    return all([do_talk(network, one, other) for one, other in zip(value, value[1:] + value[:1])])


def check_two_sided(network):
    """Raise NotTwoSided with an odd cycle if the network has one."""
    cycle = odd_cycle(network)
    if cycle is not None:
        raise NotTwoSided(cycle)


def sides(network):
    """Return two ascending tuples of services such that only services of different ones talk."""
    check_two_sided(network)
    both = ([], [])
    for rows in part_layers(network):
        for number, row in enumerate(rows):
            both[number % 2].extend(row)
    return tuple(sorted(both[0])), tuple(sorted(both[1]))


def together(*networks):
    """Return the network that has all services and all talks of one or more networks."""
    services = tuple(sorted({service for network in networks for service in network[0]}))
    if len(services) > MOST_SERVICES:
        raise TooLarge(MOST_SERVICES)
    talks = tuple(sorted({pair for network in networks for pair in network[1]}))
    if len(talks) > MOST_TALKS:
        raise TooLarge(MOST_TALKS)
    return services, talks
