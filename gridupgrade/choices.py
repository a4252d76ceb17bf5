"""What services may and must skip in the upgrades with the fewest replacements."""

from gridupgrade.grids import nodes
from gridupgrade.matchings import apart_with, find_partners, first_side, grid_links
from gridupgrade.networks import talking


def may_skip(network, distance):
    """Return the nodes that are in some of the greatest apart sets, ascending."""
    one, other = extremes(network, distance)
    return tuple(sorted(set(one + other)))


def must_skip(network, distance):
    """Return the nodes that are in all of the greatest apart sets, ascending."""
    one, other = extremes(network, distance)
    return tuple([node for node in one if node in other])


def extremes(network, distance):
    """Return the greatest apart sets with as few nodes as possible of the one and of the other side.

    All nodes of a side that stand in any greatest apart set stand in the one that has the fewest
    of the other side; and those that stand in all of them stand in the one that has the fewest.
    """
    firsts = first_side(network, distance)
    seconds = [node for node in nodes(network, distance) if node not in firsts]
    return apart_with(network, distance, firsts), apart_with(network, distance, seconds)


def fewest_without(network, distance, barred):
    """Return the fewest replacements, by services that are not lone, if the barred nodes are not skipped."""
    firsts = first_side(network, distance)
    free = [node for node in nodes(network, distance) if node not in barred]
    links = grid_links(network, distance)
    free_links = {node: [other for other in links[node] if other in free] for node in free}
    pairs = find_partners(free_links, [node for node in firsts if node in free])
    # Of the free nodes, the greatest apart set leaves out just one for each pair.
    return distance * len(talking(network)) - (len(free) - len(pairs))
