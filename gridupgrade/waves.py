"""Replacements that can be made at the same time."""

from gridupgrade.basics import is_ascending
from gridupgrade.catalogs import release_links, release_names
from gridupgrade.errors import NotWave
from gridupgrade.matchings import greatest_apart
from gridupgrade.states import is_replacement, running_releases
from gridupgrade.upgrades import checked_way, lone_replacements, stages


def is_wave(network, catalog, state, value):
    """Return whether any value is a wave of a valid state."""
    if not has_form_of_wave(network, catalog, value):
        return False
    links = release_links(catalog)
    pairs = release_pairs(network, state, value)
    return all([all_fit(links, pairs[one], pairs[other]) for one, other in network[1]])


def has_form_of_wave(network, catalog, value):
    """Return whether any value is one or more replacements of different services, ascending."""
    if not isinstance(value, tuple) or not value:
        return False
    names = release_names(catalog)
    if not all([is_replacement(network[0], names, replacement) for replacement in value]):
        return False
    # Ascending services also mean ascending replacements, and no service twice.
    return is_ascending([replacement[0] for replacement in value])


def release_pairs(network, state, wave):
    """Return for each service its old and its new release, which are the same if it is not replaced."""
    old = running_releases(network, state)
    new = dict(wave)
    return {service: (old[service], new.get(service, old[service])) for service in network[0]}


def all_fit(links, ones, others):
    """Return whether each of the releases is compatible with each of the others."""
    return all([other in links[one] for one in ones for other in others])


def after_wave(network, catalog, state, wave):
    """Return the state after a wave."""
    if not is_wave(network, catalog, state, wave):
        raise NotWave(wave)
    return tuple([new for old, new in release_pairs(network, state, wave).values()])


def waves(network, catalog, start, end):
    """Return waves that lead from start to end with the fewest replacements in all."""
    way = checked_way(network, catalog, start, end)
    groups = stages(network, way, greatest_apart(network, len(way) - 1))
    alone = lone_replacements(network, way)
    # A lone service is in nobody's way, so it can be replaced at any time.
    groups = groups[:-1] + [sorted(group + alone) for group in groups[-1:]]
    return tuple([tuple(group) for group in groups if group])


def shows_waves(network, catalog, start, end, value):
    """Return whether any value is waves that lead from start to end one after another."""
    if not isinstance(value, tuple):
        return False
    many = len(network[0])
    state = (start,) * many
    for wave in value:
        if not is_wave(network, catalog, state, wave):
            return False
        state = after_wave(network, catalog, state, wave)
    return state == (end,) * many
