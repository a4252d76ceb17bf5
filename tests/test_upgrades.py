"""Definition 3.7, section 10, and guarantees (a), (b) and (c) of section 4."""

import copy
import itertools
import unittest

from gridupgrade.errors import BadPath, BadSkips, NoRelease, NotTwoSided, Unreachable
from gridupgrade.grids import is_matching, skips
from gridupgrade.networks import odd_cycle, shows_odd_cycle
from gridupgrade.states import run
from gridupgrade.upgrades import evidence, fewest, schedule_with, shows_fewest, upgrade
from tests import search
from tests.values import (
    ALONE, CHAIN, GAP, LETTERS, PAIR, RING, STAR, TWO_WAYS, WITH_LONE, all_graphs, all_networks, any_values, catalog_of,
    chain, check_any_value, check_refused, network_of, ring, row, two_sides, variants,
)

FUNCTIONS = (fewest, upgrade, evidence)


class Examples(unittest.TestCase):
    def test_examples(self):
        self.assertEqual(fewest(PAIR, CHAIN, "ra", "rd"), 4)
        self.assertEqual(fewest(STAR, CHAIN, "ra", "rc"), 4)
        self.assertEqual(fewest(STAR, CHAIN, "rb", "rb"), 0)
        self.assertEqual(fewest((("a", "b"), ()), CHAIN, "ra", "rd"), 2)
        self.assertEqual(schedule_with(PAIR, CHAIN, ("ra", "rb", "rc", "rd"), (("c", 2), ("s", 1))),
                         (("c", "rb"), ("s", "rc"), ("c", "rd"), ("s", "rd")))
        both = (upgrade(STAR, CHAIN, "ra", "rd"), evidence(STAR, CHAIN, "ra", "rd"))
        self.assertEqual([len(both[0]), len(both[1])], [6, 3])
        self.assertIs(shows_fewest(STAR, CHAIN, "ra", "rd", both), True)
        self.assertIs(shows_fewest(STAR, CHAIN, "ra", "rd", (both[0], ())), False)


class Checks(unittest.TestCase):
    def check(self, network, catalog, start, end, many):
        """Check what the functions return where an upgrade needs so many replacements."""
        self.assertEqual(fewest(network, catalog, start, end), many)
        self.assertIs(type(fewest(network, catalog, start, end)), int)
        schedule = upgrade(network, catalog, start, end)
        self.assertTrue(search.is_upgrade(network, catalog, start, end, schedule))
        self.assertEqual(len(schedule), many)
        matching = evidence(network, catalog, start, end)
        steps = search.distances(catalog, start).get(end, 0)
        self.assertIs(is_matching(network, steps, matching), True)
        self.assertEqual(len(matching), 0 if start == end else many - len(network[0]))
        self.assertIs(shows_fewest(network, catalog, start, end, (schedule, matching)), True)

    def check_by_search(self, network, catalog, start):
        """Check all upgrades from start in a two-sided network."""
        least = search.least_steps(network, catalog, start)
        for end, _ in catalog:
            many = least.get((end,) * len(network[0]))
            if many is None:
                self.check_unreachable(network, catalog, start, end)
            else:
                self.check(network, catalog, start, end, many)

    def check_unreachable(self, network, catalog, start, end):
        near = tuple(sorted(search.distances(catalog, start)))
        self.assertNotIn(end, near)
        for function in FUNCTIONS:
            with self.assertRaises(Unreachable) as caught:
                function(network, catalog, start, end)
            self.assertEqual(caught.exception.names, near)
            self.assertIs(type(caught.exception.names), tuple)

    def check_not_two_sided(self, network, catalog, start, end):
        for function in FUNCTIONS:
            with self.assertRaises(NotTwoSided) as caught:
                function(network, catalog, start, end)
            self.assertIs(shows_odd_cycle(network, caught.exception.cycle), True)


class SmallCases(Checks):
    def test_all_catalogs_of_four_releases(self):
        for pairs in all_graphs(("ra", "rb", "rc", "rd")):
            catalog = catalog_of(("ra", "rb", "rc", "rd"), pairs)
            for network in [*all_networks("abc"), *all_networks("ab"), *all_networks("a")]:
                if odd_cycle(network) is None:
                    for start in ("ra", "rc"):
                        self.check_by_search(network, catalog, start)

    def test_all_networks_of_four_services(self):
        for network in all_networks("abcd"):
            if odd_cycle(network) is None:
                self.check_by_search(network, CHAIN, "ra")
                self.check_by_search(network, TWO_WAYS, "rd")
        for network in (STAR, PAIR, WITH_LONE):
            for catalog in (CHAIN, TWO_WAYS, GAP, CHAIN[:1]):
                for start, _ in catalog:
                    self.check_by_search(network, catalog, start)

    def test_longer_ways(self):
        self.check_by_search(PAIR, chain(9), "a")
        self.check_by_search(PAIR, chain(9), "i")
        self.check_by_search(STAR, chain(6), "a")
        self.check_by_search(network_of("abc", "bc"), chain(6), "f")
        self.check_by_search(ring(4), chain(5), "a")
        self.check_by_search(row(5), chain(4), "d")

    def test_detours_of_releases(self):
        pairs = [("ra", "rb"), ("rb", "rc"), ("rc", "rd"), ("rd", "re"), ("re", "rf"), ("ra", "rf"), ("rb", "re")]
        catalog = catalog_of(("ra", "rb", "rc", "rd", "re", "rf"), pairs)
        for start in ("ra", "rc", "rd"):
            for network in (PAIR, STAR):
                self.check_by_search(network, catalog, start)

    def test_a_service_never_runs_what_cannot_be_reached(self):
        for network in [*all_networks("abc"), WITH_LONE]:
            near = tuple(search.distances(GAP, "rc"))
            for state in search.least_steps(network, GAP, "rc"):
                for service, release in zip(network[0], state):
                    self.assertTrue(release in near or service not in search.busy(network))

    def test_any_network_needs_what_its_apart_sets_tell(self):
        for network in all_networks("abcd"):
            least = search.least_steps(network, CHAIN, "ra")
            services, busy = len(network[0]), len(search.busy(network))
            for steps in (1, 2, 3):
                apart = max(search.all_apart(network, steps), key=len)
                many = services - busy + busy * steps - len(apart)
                end = CHAIN[steps][0]
                self.assertEqual(least[(end,) * services], many)
                schedule = schedule_with(network, CHAIN, ("ra", "rb", "rc", "rd")[:steps + 1], apart)
                self.assertEqual(len(schedule), many)
                self.assertTrue(search.is_upgrade(network, CHAIN, "ra", end, schedule))


class GreatCases(Checks):
    def test_complete_two_sided_network(self):
        catalog = chain(12)
        self.check(two_sides(6, 6), catalog, "a", "l", 12 + 60)
        self.check(two_sides(6, 6), catalog, "l", "b", 12 + 54)
        self.check(two_sides(1, 11), catalog, "a", "l", 12 + 60)
        self.check(two_sides(1, 11), catalog, "a", "k", 12 + 49)
        self.check(two_sides(1, 11), catalog, "c", "b", 12)

    def test_rows_and_even_rings(self):
        catalog = chain(12)
        for at in range(1, 12):
            end = LETTERS[at]
            self.check(row(12), catalog, "a", end, 12 + 6 * (at - 1))
            self.check(row(11), catalog, "a", end, 11 + 11 * (at - 1) // 2)
            self.check(ring(12), catalog, "a", end, 12 + 6 * (at - 1))

    def test_lone_services(self):
        network = network_of(LETTERS[:12], "be", "eh", "fk")
        self.check(network, chain(12), "a", "l", 12 + 15 + 10)
        self.check(network, chain(12), "l", "a", 12 + 15 + 10)
        self.check(network, chain(12), "d", "d", 0)

    def test_no_two_services_talk(self):
        for many in (1, 2, 12):
            network = (tuple(LETTERS[:many]), ())
            for start, end in itertools.product(("ra", "rc", "rd"), repeat=2):
                for catalog in (CHAIN, GAP):
                    self.check(network, catalog, start, end, 0 if start == end else many)
                    self.assertEqual(evidence(network, catalog, start, end), ())

    def test_start_is_end(self):
        for network in (PAIR, STAR, WITH_LONE, ALONE, two_sides(6, 6)):
            for catalog in (CHAIN, GAP):
                for name, _ in catalog:
                    self.check(network, catalog, name, name, 0)
                    self.assertEqual(upgrade(network, catalog, name, name), ())
                    self.assertEqual(evidence(network, catalog, name, name), ())


class Refusals(Checks):
    def test_no_release(self):
        for value in any_values() + ["rb", "c"]:
            for network in (PAIR, RING, ALONE):
                for function in FUNCTIONS + (lambda *given: shows_fewest(*given, ((), ())),):
                    check_refused(self, lambda: function(network, GAP, value, "ra"), NoRelease, value)
                    check_refused(self, lambda: function(network, GAP, "ra", value), NoRelease, value)
                    other = ["other"]
                    check_refused(self, lambda: function(network, GAP, value, other), NoRelease, value)

    def test_not_two_sided_comes_before_unreachable(self):
        with_ring = network_of("abcdefg", "bd", "bf", "df", "ac", "ce")
        for network in (RING, ring(5), with_ring):
            for start, end in itertools.product(("ra", "rc", "rd"), repeat=2):
                self.check_not_two_sided(network, GAP, start, end)
                self.check_not_two_sided(network, CHAIN, start, end)

    def test_no_release_comes_before_not_two_sided(self):
        for function in FUNCTIONS:
            check_refused(self, lambda: function(RING, GAP, "ra", "rb"), NoRelease, "rb")
            check_refused(self, lambda: function(RING, GAP, "rb", "rb"), NoRelease, "rb")

    def test_unreachable(self):
        for network in (PAIR, STAR, WITH_LONE, two_sides(6, 6)):
            for start, end in (("ra", "rc"), ("ra", "rd"), ("rc", "ra"), ("rd", "ra")):
                self.check_unreachable(network, GAP, start, end)

    def test_all_networks_of_four_services(self):
        for network in all_networks("abcd"):
            if odd_cycle(network) is not None:
                self.check_not_two_sided(network, GAP, "ra", "ra")
            elif network[1]:
                self.check_unreachable(network, GAP, "ra", "rc")
            else:
                self.check(network, GAP, "ra", "rc", 4)


class ShowsFewest(unittest.TestCase):
    def expected(self, network, catalog, start, end, value):
        """Return whether the value shows it, word by word as section 10 says."""
        if start == end:
            return repr(value) == "((), ())"
        if type(value) is not tuple or len(value) != 2:
            return False
        if not search.is_upgrade(network, catalog, start, end, value[0]):
            return False
        steps = search.distances(catalog, start).get(end, 0)
        matchings = {repr(matching) for matching in search.all_matchings(network, steps)}
        return repr(value[1]) in matchings and len(value[0]) == len(network[0]) + len(value[1])

    def check(self, network, catalog, start, end, value):
        expected = self.expected(network, catalog, start, end, value)
        check_any_value(self, lambda given: shows_fewest(network, catalog, start, end, given), value, expected)
        return expected

    def test_all_upgrades_with_all_matchings(self):
        cases = ((PAIR, "rb", 4), (PAIR, "rc", 4), (PAIR, "rd", 5), (STAR, "rc", 5), (ALONE, "rc", 3))
        start = "ra"
        for network, end, most in cases:
            steps = search.distances(CHAIN, start)[end]
            least = search.least_steps(network, CHAIN, start)[(end,) * len(network[0])]
            accepted = 0
            for schedule in search.all_upgrades(network, CHAIN[:3] if end != "rd" else CHAIN, start, end, most):
                for matching in search.all_matchings(network, steps):
                    if shows_fewest(network, CHAIN, start, end, (schedule, matching)):
                        accepted += 1
                        self.assertEqual(len(schedule), least)
                        self.assertEqual(len(matching), least - len(network[0]))
                    else:
                        self.assertNotEqual(len(schedule), len(network[0]) + len(matching))
            self.assertGreater(accepted, 0)

    def test_variants(self):
        for network, catalog, end in ((PAIR, CHAIN, "rc"), (ALONE, GAP, "rd"), (network_of("abc", "ac"), CHAIN, "rc")):
            both = (upgrade(network, catalog, "ra", end), evidence(network, catalog, "ra", end))
            found = [self.check(network, catalog, "ra", end, value) for value in [both, *variants(both)]]
            self.assertIs(found[0], True)

    def test_one_more_or_one_fewer(self):
        for network, catalog, start, end in ((STAR, CHAIN, "ra", "rd"), (two_sides(6, 6), chain(12), "a", "l")):
            schedule, matching = upgrade(network, catalog, start, end), evidence(network, catalog, start, end)
            given = (network, catalog, start, end)
            self.assertIs(shows_fewest(*given, (schedule, matching)), True)
            for at in range(len(schedule)):
                self.assertIs(shows_fewest(*given, (schedule[:at] + schedule[at + 1:], matching)), False)
                longer = schedule[:at] + schedule[at:at + 1] + schedule[at:]
                self.assertTrue(search.is_upgrade(*given, longer))
                self.assertIs(shows_fewest(*given, (longer, matching)), False)
            for at in range(len(matching)):
                self.assertIs(shows_fewest(*given, (schedule, matching[:at] + matching[at + 1:])), False)
                self.assertIs(shows_fewest(*given, (schedule, matching[:at + 1] + matching[at:])), False)
                # Both are one too many: the numbers fit, but no node may be in two pairs.
                longer = (schedule[:1] + schedule, matching[:at + 1] + matching[at:])
                self.assertIs(shows_fewest(*given, longer), False)
                # Both are one too few: the numbers fit, but it is no upgrade.
                shorter = (schedule[:-1], matching[:at] + matching[at + 1:])
                self.assertIs(shows_fewest(*given, shorter), False)

    def test_the_matching_belongs_to_the_distance(self):
        schedule = (("c", "rb"), ("s", "rb"), ("s", "rc"), ("c", "rc"))
        self.assertIs(shows_fewest(PAIR, CHAIN, "ra", "rc", (schedule[1:], ((("c", 1), ("s", 1)),))), False)
        for pairs in (((("c", 2), ("s", 2)),), ((("c", 1), ("c", 2)),), ((("c", 0), ("s", 0)),)):
            self.assertIs(shows_fewest(PAIR, CHAIN, "ra", "rc", (schedule[:1] + schedule[2:], pairs)), False)
        two = ((("c", 1), ("s", 1)), (("c", 2), ("s", 2)))
        self.assertIs(shows_fewest(PAIR, CHAIN, "ra", "rc", (schedule, two)), False)
        self.assertIs(shows_fewest(PAIR, CHAIN, "ra", "rb", (schedule[:2], ())), True)

    def test_start_is_end(self):
        for network in (PAIR, RING, ALONE):
            check_any_value(self, lambda given: shows_fewest(network, CHAIN, "rb", "rb", given), ((), ()), True)
            for value in variants(((), ())):
                self.check(network, CHAIN, "rb", "rb", value)
        around = (("c", "ra"), ("c", "rb"))
        for value in (((), ((("c", 1), ("s", 1)),)), (around, ()), ((("c", "rb"), ("s", "rb")), ())):
            self.check(PAIR, CHAIN, "rb", "rb", value)
            self.assertIs(shows_fewest(PAIR, CHAIN, "rb", "rb", value), False)

    def test_any_value(self):
        cases = ((PAIR, "ra", "rc"), (RING, "ra", "rc"), (ALONE, "ra", "rd"), (PAIR, "rd", "rd"))
        for value in any_values():
            for network, start, end in cases:
                self.check(network, CHAIN, start, end, value)
                self.check(network, CHAIN, start, end, (value, ()))
                self.check(network, CHAIN, start, end, ((), value))
                self.check(network, CHAIN, start, end, (value, value))
            schedule, matching = upgrade(PAIR, CHAIN, "ra", "rc"), evidence(PAIR, CHAIN, "ra", "rc")
            three = ((schedule, matching, value), (value, schedule, matching))
            for given in ((schedule, value), (value, matching), *three):
                check_any_value(self, lambda shown: shows_fewest(PAIR, CHAIN, "ra", "rc", shown), given, False)

    def test_there_is_no_upgrade(self):
        for network in (PAIR, STAR, RING):
            for value in [((), ()), (tuple((name, "rc") for name in network[0]), ()), None, [], ((), (), ())]:
                for start, end in (("ra", "rc"), ("rd", "ra")):
                    check_any_value(self, lambda given: shows_fewest(network, GAP, start, end, given), value, False)

    def test_networks_with_an_odd_cycle(self):
        # At distance 1 there is no grid; above, a matching has too few pairs.
        one_step = (("x", "rb"), ("y", "rb"), ("z", "rb"))
        self.assertIs(shows_fewest(RING, CHAIN, "ra", "rb", (one_step, ())), True)
        self.assertIs(shows_fewest(RING, CHAIN, "ra", "rb", (one_step + one_step[:1], ())), False)
        pair = ((("x", 1), ("y", 1)),)
        two_steps = schedule_with(RING, CHAIN, ("ra", "rb", "rc"), (("z", 1),))
        self.assertEqual(len(two_steps), 5)
        self.assertIs(shows_fewest(RING, CHAIN, "ra", "rc", (two_steps, pair)), False)

    def test_no_two_services_talk(self):
        direct = (("a", "rc"), ("b", "rc"))
        for catalog in (GAP, CHAIN):
            self.assertIs(shows_fewest(ALONE, catalog, "ra", "rc", (direct, ())), True)
            self.assertIs(shows_fewest(ALONE, catalog, "ra", "rc", (direct[::-1], ())), True)
            self.assertIs(shows_fewest(ALONE, catalog, "ra", "rc", (direct[:1] + direct, ())), False)
            no_nodes = (direct[:1] + direct, ((("a", 1), ("b", 1)),))
            self.assertIs(shows_fewest(ALONE, catalog, "ra", "rc", no_nodes), False)

    def test_400_replacements_are_too_many_nonetheless(self):
        long = (("c", "ra"),) * 398 + (("c", "rb"), ("s", "rb"))
        for schedule in (long, long[:1] + long):
            self.assertIs(shows_fewest(PAIR, CHAIN, "ra", "rb", (schedule, ())), False)


class ScheduleWith(unittest.TestCase):
    def written_out(self, network, names, apart):
        """Return the schedule, word by word as section 10 says."""
        running = {name: names[0] for name in network[0]}
        lone = [name for name in network[0] if name not in search.busy(network)]
        found = []
        for level in range(1, len(names)):
            for name in network[0]:
                if (name, level - 1) in apart:
                    running[name] = names[level]
                    found.append((name, names[level]))
            for name in network[0]:
                if name not in lone and running[name] == names[level - 1] and (name, level) not in apart:
                    running[name] = names[level]
                    found.append((name, names[level]))
        if len(names) > 1:
            found += [(name, names[-1]) for name in lone]
        return tuple(found)

    def check(self, network, catalog, names, apart):
        schedule = schedule_with(network, catalog, names, apart)
        self.assertEqual(schedule, self.written_out(network, names, apart))
        self.assertTrue(search.is_upgrade(network, catalog, names[0], names[-1], schedule))
        self.assertEqual(skips(network, catalog, names[0], names[-1], schedule), apart)
        self.assertEqual(search.skipped(network, catalog, names[0], names[-1], schedule), apart)
        busy = len(search.busy(network))
        steps = len(names) - 1
        self.assertEqual(len(schedule), (len(network[0]) - busy) * min(steps, 1) + busy * steps - len(apart))

    def test_all_apart_sets(self):
        for network in (PAIR, STAR, RING, WITH_LONE, network_of("abc", "bc"), ring(4)):
            for steps in range(4):
                for apart in search.all_apart(network, steps):
                    self.check(network, CHAIN, ("ra", "rb", "rc", "rd")[:steps + 1], tuple(sorted(apart)))
                    self.check(network, CHAIN, ("rd", "rc", "rb", "ra")[:steps + 1], tuple(sorted(apart)))

    def test_written_out(self):
        network = network_of("abcde", "ac", "ce")
        apart = (("a", 1), ("c", 2), ("e", 1))
        early = (("c", "rb"), ("a", "rc"), ("e", "rc"))
        late = (("c", "rd"), ("a", "rd"), ("e", "rd"), ("b", "rd"), ("d", "rd"))
        self.assertEqual(schedule_with(network, CHAIN, ("ra", "rb", "rc", "rd"), apart), early + late)
        plain = (("a", "rb"), ("c", "rb"), ("e", "rb"), ("b", "rb"), ("d", "rb"))
        self.assertEqual(schedule_with(network, CHAIN, ("ra", "rb"), ()), plain)

    def test_no_step(self):
        for network in (PAIR, RING, WITH_LONE, ALONE):
            for name, _ in CHAIN:
                self.assertEqual(schedule_with(network, CHAIN, (name,), ()), ())

    def test_one_step(self):
        for network in (PAIR, RING, WITH_LONE, ALONE, two_sides(6, 6)):
            self.check(network, CHAIN, ("rb", "rc"), ())
            self.check(network, CHAIN, ("rb", "ra"), ())

    def test_eleven_steps(self):
        catalog, names = chain(12), tuple(LETTERS[:12])
        for network in (PAIR, WITH_LONE, two_sides(6, 6), ring(12), ring(11), row(12), ALONE):
            busy = search.busy(network)
            odd = tuple((name, level) for name in busy[:1] for level in range(1, 11, 2))
            even = tuple((name, level) for name in busy[-1:] for level in range(2, 11, 2))
            for apart in ((), odd, even, odd[1:3], tuple(sorted(odd + even))):
                self.check(network, catalog, names, apart)
        half = tuple((name, level) for name in LETTERS[:12] for level in range(1, 11)
                     if (name in LETTERS[:6]) == (level % 2 == 0))
        self.check(two_sides(6, 6), catalog, names, half)
        self.check(two_sides(6, 6), catalog, names[::-1], half)

    def test_no_two_services_talk(self):
        self.assertEqual(schedule_with(ALONE, CHAIN, ("ra", "rb", "rc"), ()), (("a", "rc"), ("b", "rc")))
        self.assertEqual(schedule_with((("a",), ()), CHAIN, ("rc", "rd"), ()), (("a", "rd"),))

    def test_each_of_several_shortest_paths(self):
        for names in (("ra", "rb", "rd"), ("ra", "rc", "rd"), ("rb", "rd", "rc"), ("rc", "ra", "rb")):
            for apart in search.all_apart(STAR, 2):
                self.check(STAR, TWO_WAYS, names, apart)


class BadPaths(unittest.TestCase):
    def shortest(self, catalog):
        """Return the reprs of all paths."""
        names = [name for name, _ in catalog]
        found = set()
        for many in range(1, len(names) + 1):
            for way in itertools.product(names, repeat=many):
                fits = all(search.fit(catalog, *pair) for pair in zip(way, way[1:]))
                if fits and search.distances(catalog, way[0])[way[-1]] == many - 1:
                    found.add(repr(way))
        return found

    def check(self, network, catalog, value, right):
        if repr(value) in right:
            before = copy.deepcopy(value)
            self.assertTrue(search.is_upgrade(network, catalog, value[0], value[-1],
                                              schedule_with(network, catalog, value, ())))
            self.assertEqual(repr(value), repr(before))
        else:
            check_refused(self, lambda: schedule_with(network, catalog, value, ()), BadPath, value)

    def test_all_short_tuples(self):
        for catalog in (CHAIN, GAP, TWO_WAYS, CHAIN[:1]):
            right = self.shortest(catalog)
            for many in range(5):
                for value in itertools.product(("ra", "rb", "rc", "rd"), repeat=many):
                    self.check(STAR, catalog, value, right)

    def test_any_value(self):
        for value in any_values():
            for given in (value, (value,), ("ra", value), (value, "rb"), ("ra", "rb", value), ("ra", value, "rc")):
                right = {"('ra',)"} if repr(given) == "('ra',)" else set()
                self.check(PAIR, CHAIN, given, right)
                self.check(ALONE, CHAIN, given, right)

    def test_variants(self):
        right = self.shortest(CHAIN)
        for value in variants(("ra", "rb", "rc")):
            self.check(PAIR, CHAIN, value, right)

    def test_longer_than_needed(self):
        shortcut = catalog_of(("ra", "rb", "rc", "rd"), [("ra", "rb"), ("rb", "rc"), ("ra", "rc"), ("rc", "rd")])
        twice = (("ra", "rb", "ra"), ("ra", "ra"), ("ra", "ra", "rb"))
        for value in (("ra", "rb", "rc"), ("ra", "rb", "rc", "rd"), *twice):
            check_refused(self, lambda: schedule_with(PAIR, shortcut, value, ()), BadPath, value)
        long = ("ra", "rb") * 300
        check_refused(self, lambda: schedule_with(PAIR, shortcut, long, ()), BadPath, long)

    def test_steps_that_are_not_compatible(self):
        for value in (("ra", "rc"), ("ra", "rd"), ("ra", "rb", "rd"), ("rd", "rb"), ("ra", "rc", "rd")):
            for network in (PAIR, ALONE):
                check_refused(self, lambda: schedule_with(network, CHAIN, value, ()), BadPath, value)


class BadSets(unittest.TestCase):
    NAMES = ("ra", "rb", "rc", "rd")

    def check(self, network, names, value):
        right = {repr(tuple(sorted(nodes))) for nodes in search.all_apart(network, len(names) - 1)}
        if repr(value) in right:
            before = copy.deepcopy(value)
            schedule = schedule_with(network, CHAIN, names, value)
            self.assertEqual(skips(network, CHAIN, names[0], names[-1], schedule), value)
            self.assertEqual(repr(value), repr(before))
        else:
            check_refused(self, lambda: schedule_with(network, CHAIN, names, value), BadSkips, value)

    def test_any_value(self):
        for value in any_values():
            for network in (PAIR, RING, ALONE):
                for many in (1, 2, 4):
                    self.check(network, self.NAMES[:many], value)
            for given in ((value,), (("c", value),), ((value, 1),), (("c", 2), value)):
                self.check(PAIR, self.NAMES, given)

    def test_variants(self):
        for value in variants((("c", 2), ("s", 1))):
            self.check(PAIR, self.NAMES, value)
        for value in variants((("x", 1),)):
            self.check(RING, self.NAMES[:3], value)

    def test_nodes_beyond_the_distance(self):
        for many in range(1, 5):
            for level in range(-1, 6):
                self.check(PAIR, self.NAMES[:many], (("c", level),))
                self.check(ALONE, self.NAMES[:many], (("a", level),))
                self.check(WITH_LONE, self.NAMES[:many], (("b", level),))

    def test_adjacent_nodes(self):
        for value in ((("c", 1), ("s", 1)), (("c", 1), ("c", 2)), (("s", 1), ("s", 2)), (("c", 2), ("s", 2))):
            check_refused(self, lambda: schedule_with(PAIR, CHAIN, self.NAMES, value), BadSkips, value)

    def test_bad_path_comes_before_bad_skips(self):
        for value in any_values() + [("ra", "rc"), ("ra", "ra"), ("re",)]:
            if repr(value) != "('ra',)":
                for apart in ([], None, (("c", 9),), value, ()):
                    check_refused(self, lambda: schedule_with(PAIR, CHAIN, value, apart), BadPath, value)


class Calls(unittest.TestCase):
    def test_arguments_by_name_in_another_sequence(self):
        for function in FUNCTIONS:
            self.assertEqual(function(end="rd", start="ra", catalog=CHAIN, network=STAR),
                             function(STAR, CHAIN, "ra", "rd"))
            first, second = ["first"], ["second"]
            check_refused(self, lambda: function(end=second, start=first, catalog=CHAIN, network=RING),
                          NoRelease, first)
        both = (upgrade(STAR, CHAIN, "rd", "ra"), evidence(STAR, CHAIN, "rd", "ra"))
        self.assertIs(shows_fewest(value=both, end="ra", start="rd", catalog=CHAIN, network=STAR), True)
        self.assertIs(shows_fewest(value=both, end="rd", start="ra", catalog=CHAIN, network=STAR), False)
        self.assertEqual(schedule_with(apart=(("c", 1),), path=("ra", "rb", "rc"), catalog=CHAIN, network=PAIR),
                         (("s", "rb"), ("c", "rc"), ("s", "rc")))
        bad_path, bad_set = ["path"], ["set"]
        check_refused(self, lambda: schedule_with(apart=bad_set, path=bad_path, catalog=CHAIN, network=PAIR),
                      BadPath, bad_path)

    def test_arguments_are_not_changed_and_results_are_equal(self):
        given = (two_sides(3, 4), chain(8), "b", "g")
        same = copy.deepcopy(given)
        for function in FUNCTIONS:
            self.assertEqual(function(*given), function(*same))
        self.assertEqual(repr(given), repr(same))

    def test_somewhat_beyond_the_limits(self):
        names = tuple("service" + letter * 3 for letter in LETTERS)
        network, catalog = (names, tuple(zip(names, names[1:]))), chain(14)
        schedule, matching = upgrade(network, catalog, "a", "n"), evidence(network, catalog, "a", "n")
        self.assertEqual(fewest(network, catalog, "a", "n"), 14 + 7 * 12)
        self.assertEqual(run(network, catalog, ("a",) * 14, schedule), ("n",) * 14)
        self.assertIs(shows_fewest(network, catalog, "a", "n", (schedule, matching)), True)


if __name__ == "__main__":
    unittest.main()
