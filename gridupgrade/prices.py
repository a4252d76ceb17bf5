"""Upgrades with the least price, and the flows that show that there is no lesser one."""

from gridupgrade.basics import is_ascending, is_integer
from gridupgrade.catalogs import check_releases, is_name
from gridupgrade.errors import BadPrice
from gridupgrade.grids import are_adjacent, is_pair, is_upgrade, nodes, upgrade_way
from gridupgrade.matchings import apart_behind, first_side, grid_links
from gridupgrade.networks import talking
from gridupgrade.upgrades import checked_way, schedule_along

HIGHEST_PRICE = 10 ** 6


def are_prices(value):
    """Return whether any value is prices."""
    if not isinstance(value, tuple) or not all([is_name_with_price(pair) for pair in value]):
        return False
    # Ascending names also mean ascending pairs, and no name twice.
    return is_ascending([pair[0] for pair in value])


def is_name_with_price(value):
    """Return whether any value is a pair of a name and a price."""
    return isinstance(value, tuple) and len(value) == 2 and is_name(value[0]) and is_price(value[1])


def is_price(value):
    """Return whether any value is a price."""
    return is_integer(value) and 1 <= value <= HIGHEST_PRICE


def priced(**prices):
    """Return the prices that are given by keywords."""
    pairs = tuple([(name, prices[name]) for name in sorted(prices)])
    for pair in pairs:
        if not is_name_with_price(pair):
            raise BadPrice(pair[0])
    return pairs


def price_of(schedule, prices):
    """Return the price of a schedule."""
    return prices_in_all([service for service, _ in schedule], prices)


def prices_in_all(services, prices):
    """Return the sum of the prices of services, each as often as it stands there."""
    known = dict(prices)
    return sum([known.get(service, 1) for service in services])


def least_price(network, catalog, start, end, prices):
    """Return the least price of an upgrade."""
    amounts = flow(network, catalog, start, end, prices)
    if start == end:
        return 0
    return prices_in_all(network[0], prices) + sum_of_flow(amounts)


def sum_of_flow(triples):
    """Return the sum of the amounts of a flow."""
    return sum([triple[2] for triple in triples])


def cheapest(network, catalog, start, end, prices):
    """Return an upgrade with the least price."""
    way = checked_way(network, catalog, start, end)
    steps = len(way) - 1
    reached = greatest_flow(network, steps, prices)[1]
    # At the nodes that are left out the flow is as great as their prices, and nothing flows between
    # two of them; so their prices add up to the flow, and no other nodes can be left out for less.
    apart = apart_behind(nodes(network, steps), first_side(network, steps), reached)
    return schedule_along(network, way, apart)


def flow(network, catalog, start, end, prices):
    """Return a flow with the greatest possible sum of amounts, ascending."""
    way = checked_way(network, catalog, start, end)
    amounts = greatest_flow(network, len(way) - 1, prices)[0]
    return tuple(sorted([(min(pair), max(pair), amounts[pair]) for pair in amounts]))


def greatest_flow(network, distance, prices):
    """Return the amounts of a greatest flow by pairs of nodes, and the nodes to which more could flow."""
    known = dict(prices)
    firsts = first_side(network, distance)
    links = grid_links(network, distance)
    spare = {node: known.get(node[0], 1) for node in links}
    # From the first side to the second one any amount may flow; back flows what came from there.
    plenty = sum(spare.values())
    room = {(node, other): plenty if node in firsts else 0 for node in links for other in links[node]}
    while True:
        before = ways_to(links, room, [node for node in firsts if spare[node] > 0])
        ends = [node for node in before if node not in firsts and spare[node] > 0]
        if not ends:
            break
        send(room, spare, way_to(before, ends[0]))
    amounts = {(node, other): room[(other, node)] for node in firsts for other in links[node]}
    return {pair: amounts[pair] for pair in amounts if amounts[pair] > 0}, before


def ways_to(links, room, sources):
    """Return for each node to which more could flow from a source the node before it, None for a source."""
    before = {node: None for node in sources}
    row = sources
    while row:
        near = [(other, node) for node in row for other in links[node] if room[(node, other)] > 0]
        found = {other: node for other, node in near if other not in before}
        before.update(found)
        row = list(found)
    return before


def way_to(before, end):
    """Return the nodes of the way from a source to the end."""
    way = [end]
    while before[way[-1]] is not None:
        way.append(before[way[-1]])
    return way[::-1]


def send(room, spare, way):
    """Send as much as possible along a way."""
    steps = list(zip(way, way[1:]))
    amount = min([spare[way[0]], spare[way[-1]]] + [room[step] for step in steps])
    spare[way[0]] -= amount
    spare[way[-1]] -= amount
    for one, other in steps:
        room[(one, other)] -= amount
        room[(other, one)] += amount


def shows_cheapest(network, catalog, start, end, prices, value):
    """Return whether any value is an upgrade and a flow that shows that none has a smaller price."""
    check_releases(catalog, (start, end))
    if start == end:
        return value == ((), ())
    if not isinstance(value, tuple) or len(value) != 2:
        return False
    schedule, triples = value
    if not is_upgrade(network, catalog, start, end, schedule):
        return False
    # There is an upgrade, so there is a way as well.
    steps = len(upgrade_way(network, catalog, start, end)) - 1
    if not is_flow(network, steps, prices, triples):
        return False
    return price_of(schedule, prices) == prices_in_all(network[0], prices) + sum_of_flow(triples)


def is_flow(network, distance, prices, value):
    """Return whether any value is a flow."""
    services = talking(network)
    if not isinstance(value, tuple) or not all([is_triple(services, distance, triple) for triple in value]):
        return False
    pairs = [(node, other) for node, other, _ in value]
    # Ascending pairs also mean ascending triples, and no pair twice.
    if not is_ascending(pairs) or not all([are_adjacent(network, node, other) for node, other in pairs]):
        return False
    known = dict(prices)
    return all([amount_at(value, node) <= known.get(node[0], 1) for pair in pairs for node in pair])


def is_triple(services, distance, value):
    """Return whether any value is two nodes, the lesser one first, and an integer amount from 1."""
    if not isinstance(value, tuple) or len(value) != 3:
        return False
    return is_pair(services, distance, value[:2]) and is_integer(value[2]) and value[2] >= 1


def amount_at(triples, node):
    """Return the sum of the amounts at a node."""
    return sum([amount for one, other, amount in triples if node in (one, other)])
