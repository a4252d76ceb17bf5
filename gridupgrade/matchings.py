"""Greatest matchings, greatest apart sets and least covers of grids."""

from gridupgrade.basics import layers
from gridupgrade.grids import are_adjacent, nodes
from gridupgrade.networks import sides


def greatest_matching(network, distance):
    """Return a matching with as many pairs as possible."""
    partners = find_partners(grid_links(network, distance), first_side(network, distance))
    return tuple(sorted([(min(pair), max(pair)) for pair in partners.items()]))


def greatest_apart(network, distance):
    """Return an apart set with as many nodes as possible."""
    return apart_with(network, distance, first_side(network, distance))


def apart_with(network, distance, firsts):
    """Return the greatest apart set that holds as few nodes of this one side as possible."""
    reached = reached_nodes(grid_links(network, distance), firsts)
    return apart_behind(nodes(network, distance), firsts, reached)


def apart_behind(grid, firsts, reached):
    """Return the nodes that are reached on the first side or not reached on the second one.

    All nodes around a reached node of the first side must be reached; so these nodes are apart.
    """
    # The nodes of a pair of a greatest matching are both reached or both not, so just one of them
    # is left out, and all nodes without a partner are taken: no apart set has more nodes.
    return tuple([node for node in grid if (node in reached) == (node in firsts)])


def cover(network, distance):
    """Return as few nodes as possible that hold one of any two adjacent nodes, ascending."""
    apart = greatest_apart(network, distance)
    return tuple([node for node in nodes(network, distance) if node not in apart])


def first_side(network, distance):
    """Return the nodes of one side of the grid: just one of any two adjacent nodes is there."""
    left = sides(network)[0]
    return [node for node in nodes(network, distance) if (node[0] in left) == (node[1] % 2 == 0)]


def grid_links(network, distance):
    """Return for each node of the grid the nodes that are adjacent to it."""
    grid = nodes(network, distance)
    return {node: [other for other in grid if are_adjacent(network, node, other)] for node in grid}


def find_partners(links, firsts):
    """Return a greatest matching: for its nodes on the second side, their partners on the first one."""
    partners = {}
    for node in firsts:
        find_partner(links, partners, {}, node)
    return partners


def find_partner(links, partners, asked, node):
    """Give a node of the first side a partner if others can make room; return whether it has one."""
    for other in links[node]:
        if other not in asked:
            asked[other] = True
            if other not in partners or find_partner(links, partners, asked, partners[other]):
                partners[other] = node
                return True
    return False


def reached_nodes(links, firsts):
    """Return, as keys, the nodes that lie on a way from a node of the first side without a partner.

    A way goes from the first side to any adjacent node, and from there to its partner only.
    """
    partners = find_partners(links, firsts)
    steps = {node: [partners[node]] if node in partners else links[node] for node in links}
    paired = list(partners.values())
    free = [node for node in firsts if node not in paired]
    return {node: True for start in free for row in layers(steps, start) for node in row}
