"""The definitions of the document, word by word, and searches that try everything. All of it is slow."""

import functools
import heapq
import itertools


def talk(network, one, other):
    """Return whether two services talk."""
    return (min(one, other), max(one, other)) in network[1]


def busy(network):
    """Return the services that are not lone."""
    return [name for name in network[0] if any(name in pair for pair in network[1])]


def fit(catalog, one, other):
    """Return whether two releases are compatible."""
    versions = dict(catalog)
    return bool(set(versions[one]) & set(versions[other]))


@functools.cache
def fitting_pairs(catalog):
    """Return the set of all (release, release) that are compatible."""
    names = [name for name, _ in catalog]
    return {pair for pair in itertools.product(names, repeat=2) if fit(catalog, *pair)}


@functools.cache
def distances(catalog, start):
    """Return the distance of each release that has one."""
    pairs = fitting_pairs(catalog)
    found = {start: 0}
    while True:
        near = {other for one, other in pairs if one in found and other not in found}
        if not near:
            return found
        deepest = max(found.values())
        found.update({name: deepest + 1 for name in near})


def all_states(network, catalog):
    """Return all states."""
    return list(itertools.product([name for name, _ in catalog], repeat=len(network[0])))


@functools.cache
def wrong_talks(network, catalog, state):
    """Return the talks whose services do not run compatible releases."""
    running = dict(zip(network[0], state))
    fitting = fitting_pairs(catalog)
    return [(one, other) for one, other in network[1] if (running[one], running[other]) not in fitting]


def valid_states(network, catalog):
    """Return all valid states."""
    return [state for state in all_states(network, catalog) if not wrong_talks(network, catalog, state)]


@functools.cache
def state_after(network, state, replacement):
    """Return the state after a replacement, whether it is possible or not."""
    service, release = replacement
    return tuple(release if name == service else old for name, old in zip(network[0], state))


def all_replacements(network, catalog):
    """Return all replacements."""
    return list(itertools.product(network[0], [name for name, _ in catalog]))


def steps_of(network, catalog, state, schedule):
    """Return the states from the given one on, up to the first that is not valid or to the end."""
    states = [state]
    for replacement in schedule:
        states.append(state_after(network, states[-1], replacement))
        if wrong_talks(network, catalog, states[-1]):
            break
    return states


def has_form_of_schedule(network, catalog, value):
    """Return whether any value is a schedule of services and releases that there are."""
    if type(value) is not tuple or len(value) > 400:
        return False
    known = {repr(replacement) for replacement in all_replacements(network, catalog)}
    return all(repr(replacement) in known for replacement in value)


def is_upgrade(network, catalog, start, end, value):
    """Return whether any value is an upgrade from start to end."""
    if not has_form_of_schedule(network, catalog, value):
        return False
    many = len(network[0])
    states = steps_of(network, catalog, (start,) * many, value)
    # The last of the states is valid in any case: it is the one in which all run end.
    return len(states) == len(value) + 1 and states[-1] == (end,) * many


def least_steps(network, catalog, start):
    """Return for each state that can be reached from the one in which all run start the fewest replacements."""
    return least_steps_from(network, catalog, (start,) * len(network[0]))


@functools.cache
def least_steps_from(network, catalog, first):
    """Return for each state that can be reached from a valid state the fewest replacements."""
    pairs = fitting_pairs(catalog)
    names = [name for name, _ in catalog]
    at = {name: place for place, name in enumerate(network[0])}
    around = [[at[other] for other in network[0] if talk(network, name, other)] for name in network[0]]
    found = {first: 0}
    waiting = [first]
    for state in waiting:
        for place, name in itertools.product(range(len(state)), names):
            after = state[:place] + (name,) + state[place + 1:]
            if after not in found and all((name, state[other]) in pairs for other in around[place]):
                found[after] = found[state] + 1
                waiting.append(after)
    return found


def all_nodes(network, distance):
    """Return all nodes of a grid."""
    return [(name, level) for name in busy(network) for level in range(1, distance)]


def adjacent(network, one, other):
    """Return whether two nodes are adjacent."""
    same_level = one[1] == other[1] and talk(network, one[0], other[0])
    return same_level or (one[0] == other[0] and one[1] - other[1] in (1, -1))


def all_apart(network, distance):
    """Return all apart sets."""
    found = [()]
    for node in all_nodes(network, distance):
        found += [nodes + (node,) for nodes in found if not any(adjacent(network, node, other) for other in nodes)]
    return found


def all_matchings(network, distance):
    """Return all matchings."""
    found = [()]
    for pair in itertools.combinations(all_nodes(network, distance), 2):
        if adjacent(network, *pair):
            found += [pairs + (pair,) for pairs in found if not any(node in other for other in pairs for node in pair)]
    return found


def skipped(network, catalog, start, end, schedule):
    """Return the (service, level) that services skip, by looking at each state of an upgrade."""
    level = distances(catalog, start)
    states = steps_of(network, catalog, (start,) * len(network[0]), schedule)
    run = {(name, level.get(release)) for state in states for name, release in zip(network[0], state)}
    return tuple(node for node in all_nodes(network, level.get(end, 0)) if node not in run)


def all_upgrades(network, catalog, start, end, most):
    """Return all upgrades from start to end with at most so many replacements."""
    many = len(network[0])
    ways = [((), (start,) * many)]
    found = []
    for _ in range(most + 1):
        found += [schedule for schedule, state in ways if state == (end,) * many]
        ways = [
            (schedule + (replacement,), state_after(network, state, replacement))
            for schedule, state in ways
            for replacement in all_replacements(network, catalog)
            if not wrong_talks(network, catalog, state_after(network, state, replacement))
        ]
    return found


def price(services, prices):
    """Return the sum of the prices of the services."""
    return sum(dict(prices).get(service, 1) for service in services)


def least_prices(network, catalog, start, prices):
    """Return for each state that can be reached from the one in which all run start the least price."""
    moves = all_replacements(network, catalog)
    first = (start,) * len(network[0])
    found = {}
    waiting = [(0, first)]
    while waiting:
        paid, state = heapq.heappop(waiting)
        if state not in found:
            found[state] = paid
            for replacement in moves:
                after = state_after(network, state, replacement)
                if after not in found and not wrong_talks(network, catalog, after):
                    heapq.heappush(waiting, (paid + price(replacement[:1], prices), after))
    return found


def is_flow(network, distance, prices, value):
    """Return whether any value is a flow."""
    if type(value) is not tuple or not all(type(part) is tuple and len(part) == 3 for part in value):
        return False
    known = {repr(node) for node in all_nodes(network, distance)}
    if not all(repr(one) in known and repr(other) in known for one, other, _ in value):
        return False
    if not all(type(amount) is int and amount >= 1 for _, _, amount in value):
        return False
    pairs = [part[:2] for part in value]
    if len(set(pairs)) < len(pairs) or list(value) != sorted(value):
        return False
    if not all(one < other and adjacent(network, one, other) for one, other in pairs):
        return False
    at = {node: sum(part[2] for part in value if node in part[:2]) for pair in pairs for node in pair}
    return all(at[node] <= price(node[:1], prices) for node in at)


def all_flows(network, distance, prices):
    """Return all flows."""
    found = [()]
    for one, other in itertools.combinations(all_nodes(network, distance), 2):
        if adjacent(network, one, other):
            most = min(price(one[:1], prices), price(other[:1], prices))
            found += [flow + ((one, other, amount),) for flow in found for amount in range(1, most + 1)]
    return [flow for flow in found if is_flow(network, distance, prices, flow)]


def is_wave(network, catalog, state, value):
    """Return whether any value is a wave of a valid state."""
    if type(value) is not tuple or not value or not has_form_of_schedule(network, catalog, value):
        return False
    services = [service for service, _ in value]
    if len(set(services)) < len(services) or list(value) != sorted(value):
        return False
    run = {service: [release] for service, release in zip(network[0], state)}
    for service, release in value:
        run[service].append(release)
    return all(fit(catalog, *pair) for talk in network[1] for pair in itertools.product(run[talk[0]], run[talk[1]]))


def shows_waves(network, catalog, start, end, value):
    """Return whether any value is waves that lead from start to end."""
    if type(value) is not tuple:
        return False
    state = (start,) * len(network[0])
    for wave in value:
        if not is_wave(network, catalog, state, wave):
            return False
        for replacement in wave:
            state = state_after(network, state, replacement)
    return state == (end,) * len(network[0])
