"""The whole program together: guarantees (a) to (g) of section 4 in small cases of every kind."""

import itertools
import unittest

from gridupgrade.catalogs import distance, is_catalog, path, reachable
from gridupgrade.choices import fewest_without, may_skip, must_skip
from gridupgrade.desk import Desk
from gridupgrade.errors import NotTwoSided, TooLarge, Unreachable
from gridupgrade.fleets import Fleet, PricedFleet, rehearsed
from gridupgrade.grids import nodes, skips
from gridupgrade.matchings import cover, greatest_apart, greatest_matching
from gridupgrade.networks import is_network, lone, odd_cycle, sides
from gridupgrade.prices import cheapest, flow, least_price, price_of, shows_cheapest
from gridupgrade.small import fewest_any, greatest_any, search
from gridupgrade.states import is_valid, run, walk
from gridupgrade.texts import (
    format_catalog, format_network, format_schedule, parse_catalog, parse_network, parse_schedule,
)
from gridupgrade.upgrades import evidence, fewest, schedule_with, shows_fewest, upgrade
from gridupgrade.waves import after_wave, shows_waves, waves
from tests import search as slow
from tests.values import ALONE, CHAIN, GAP, RING, STAR, TWO_WAYS, WITH_LONE, all_networks, chain, network_of, ring

CATALOGS = (CHAIN, GAP, TWO_WAYS, chain(5), CHAIN[:2], CHAIN[:1])
NETWORKS = [network for many in (1, 2, 3) for network in all_networks("abc"[:many])]
NETWORKS += [STAR, RING, ALONE, WITH_LONE, ring(4), network_of("abcd", "ab", "bc", "ac", "cd")]


def cases():
    """Return small cases of every kind: with and without odd cycles, talks, and ways."""
    for network, catalog in itertools.product(NETWORKS, CATALOGS):
        for start, end in itertools.product([name for name, _ in catalog], repeat=2):
            yield network, catalog, start, end


class Agreement(unittest.TestCase):
    def least(self, network, catalog, start, end):
        """Return the least number of replacements by a search of all states, or None."""
        return slow.least_steps(network, catalog, start).get((end,) * len(network[0]))

    def test_kinds_of_cases(self):
        kinds = {(odd_cycle(network) is None, bool(network[1]), self.least(network, *rest) is None, rest[1] == rest[2])
                 for network, *rest in cases()}
        self.assertEqual(len(kinds), 8)
        for network, catalog, _, _ in cases():
            self.assertTrue(is_network(network) and is_catalog(catalog))

    def test_least_numbers(self):
        for given in cases():
            network, catalog, start, end = given
            many = self.least(*given)
            if many is None:
                continue
            services = len(network[0])
            steps = distance(catalog, start, end) if network[1] else 0
            self.assertEqual(fewest_any(*given), many)
            self.assertEqual(len(search(network, catalog, (start,) * services, (end,) * services)), many)
            if start != end and network[1]:
                alone = len(lone(network))
                apart = greatest_any(network, steps)
                self.assertEqual(many, alone + (services - alone) * steps - len(apart))
                self.assertEqual(len(schedule_with(network, catalog, path(catalog, start, end), apart)), many)
            if odd_cycle(network) is None:
                self.check_two_sided(given, steps, many)
            else:
                for function in (fewest, upgrade, evidence, waves):
                    self.assertRaises(NotTwoSided, function, *given)

    def check_two_sided(self, given, steps, many):
        network, catalog, start, end = given
        schedule = upgrade(*given)
        self.assertEqual([fewest(*given), len(schedule)], [many, many])
        self.assertEqual(sum(len(wave) for wave in waves(*given)), many)
        self.assertIs(shows_waves(*given, waves(*given)), True)
        self.assertIs(shows_fewest(*given, (schedule, evidence(*given))), True)
        self.assertEqual(least_price(*given, ()), many)
        self.assertEqual(Fleet(network, catalog, start).upgrade(end), many)
        self.assertEqual(PricedFleet(network, catalog, start, budget=many).upgrade(end), many)
        desk = Desk(format_network(network), format_catalog(catalog))
        self.assertEqual(desk.say(f"fewest {start} {end}"), str(many))
        desk.say(f"start {start}")
        self.assertEqual(desk.say(f"upgrade {end}"), str(many))
        if start != end:
            self.assertEqual(many, len(network[0]) + len(greatest_matching(network, steps)))
            self.assertEqual(len(cover(network, steps)), len(evidence(*given)))
            alone = len(lone(network))
            self.assertEqual(many, alone + (fewest_without(network, steps, ()) if network[1] else 0))
            self.assertEqual(len(greatest_apart(network, steps)), len(greatest_any(network, steps)))

    def test_there_is_no_upgrade(self):
        seen = 0
        for given in cases():
            network, catalog, start, end = given
            if self.least(*given) is None:
                seen += 1
                near = reachable(catalog, start)
                services = len(network[0])
                self.assertIsNone(search(network, catalog, (start,) * services, (end,) * services))
                self.assertRaises(Unreachable, fewest_any, *given)
                self.assertIs(shows_fewest(*given, (((network[0][0], end),), ())), False)
                if odd_cycle(network) is None:
                    for call in (lambda: fewest(*given), lambda: waves(*given), lambda: cheapest(*given, ()),
                                 lambda: Fleet(network, catalog, start).upgrade(end)):
                        with self.assertRaises(Unreachable) as caught:
                            call()
                        self.assertEqual(caught.exception.names, near)
        self.assertGreater(seen, 50)

    def test_prices(self):
        for given in cases():
            network, catalog, start, end = given
            if odd_cycle(network) is None and self.least(*given) is not None:
                prices = tuple(zip(network[0], (4, 1, 2, 7)))
                least = slow.least_prices(network, catalog, start, prices)[(end,) * len(network[0])]
                schedule = cheapest(*given, prices)
                self.assertEqual([least_price(*given, prices), price_of(schedule, prices)], [least, least])
                self.assertIs(shows_cheapest(*given, prices, (schedule, flow(*given, prices))), True)
                purse = PricedFleet(network, catalog, start, prices=prices, budget=least)
                self.assertEqual(rehearsed(purse, lambda fleet: fleet.upgrade(end)), len(schedule))
                self.assertEqual(rehearsed(purse, lambda fleet: [fleet.upgrade(end), fleet.spent][1]), least)
                self.assertEqual([purse.spent, purse.made], [0, 0])

    def test_one_way_to_the_end(self):
        for given in cases():
            network, catalog, start, end = given
            if odd_cycle(network) is None and self.least(*given) is not None:
                first, last = (start,) * len(network[0]), (end,) * len(network[0])
                schedule = upgrade(*given)
                self.assertEqual(run(network, catalog, first, schedule), last)
                states = list(walk(network, catalog, first, schedule))
                self.assertEqual([states[0], states[-1], len(states)], [first, last, len(schedule) + 1])
                self.assertTrue(all(is_valid(network, catalog, state) for state in states))
                state = first
                for wave in waves(*given):
                    state = after_wave(network, catalog, state, wave)
                self.assertEqual(state, last)
                fleet = Fleet(network, catalog, start)
                self.assertEqual(fleet.tried(schedule), last)
                fleet.upgrade(end)
                self.assertEqual([fleet.state, fleet.log()], [last, schedule])
                for service, release in schedule[::-1]:
                    self.assertIn(release, reachable(catalog, start) if network[1] else [end])
                    self.assertIn(service, network[0])

    def test_skips(self):
        for given in cases():
            network, catalog, start, end = given
            if odd_cycle(network) is None and network[1] and self.least(*given) is not None and start != end:
                steps = distance(catalog, start, end)
                skipped = skips(*given, upgrade(*given))
                self.assertEqual(len(skipped), len(greatest_apart(network, steps)))
                self.assertLessEqual(set(must_skip(network, steps)), set(skipped))
                self.assertLessEqual(set(skipped), set(may_skip(network, steps)))
                self.assertLessEqual(set(may_skip(network, steps)), set(nodes(network, steps)))
                names = path(catalog, start, end)
                self.assertEqual(skips(*given, schedule_with(network, catalog, names, skipped)), skipped)

    def test_texts(self):
        for given in cases():
            network, catalog, start, end = given
            self.assertEqual(parse_network(format_network(network)), network)
            self.assertEqual(parse_catalog(format_catalog(catalog)), catalog)
            if odd_cycle(network) is None and self.least(*given) is not None:
                schedule = upgrade(*given)
                self.assertEqual(parse_schedule(format_schedule(schedule)), schedule)
                desk = Desk(format_network(network), format_catalog(catalog))
                desk.say("start " + start)
                self.assertEqual(desk.say("try " + format_schedule(schedule)), " ".join((end,) * len(network[0])))
                desk.say("upgrade " + end)
                self.assertEqual(desk.say("log"), format_schedule(schedule))
                self.assertEqual(desk.say("sides"), " / ".join(" ".join(side) or "-" for side in sides(network)))

    def test_equal_calls_with_equal_results(self):
        for given in cases():
            network, catalog, start, end = given
            if odd_cycle(network) is None and self.least(*given) is not None:
                for function in (fewest, upgrade, evidence, waves, fewest_any):
                    self.assertEqual(function(*given), function(*given))
                self.assertEqual(cheapest(*given, ()), cheapest(*given, ()))

    def test_great_cases_are_too_large_for_small(self):
        network, catalog = ring(12), chain(12)
        self.assertRaises(TooLarge, fewest_any, network, catalog, "a", "l")
        self.assertRaises(TooLarge, search, network, catalog, ("a",) * 12, ("l",) * 12)
        self.assertEqual(fewest(network, catalog, "a", "l"), 12 + 60)


if __name__ == "__main__":
    unittest.main()
