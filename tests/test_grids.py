"""Definitions 3.6 to 3.9, and section 8."""

import copy
import itertools
import unittest

from gridupgrade.errors import NoRelease, NotUpgrade
from gridupgrade.grids import are_adjacent, is_apart, is_matching, nodes, skips
from tests import search
from tests.values import (
    ALONE, CHAIN, LETTERS, PAIR, RING, STAR, WITH_LONE, any_values, catalog_of, chain, check_any_value, check_refused,
    network_of, ring, row, two_sides, variants,
)

# rb and rc are both of level 1, rd and re of level 2, rf of level 3, rg has none.
BRANCHES = catalog_of(
    ("ra", "rb", "rc", "rd", "re", "rf", "rg"),
    [("ra", "rb"), ("ra", "rc"), ("rb", "rc"), ("rb", "rd"), ("rc", "re"), ("rd", "rf"), ("re", "rf")],
)
SMALL_GRIDS = [
    (network, distance)
    for network in (PAIR, STAR, RING, ALONE, (("c",), ()), network_of("abc", "bc"), WITH_LONE)
    for distance in range(4)
]


class Examples(unittest.TestCase):
    def test_examples(self):
        self.assertEqual(nodes(PAIR, 3), (("c", 1), ("c", 2), ("s", 1), ("s", 2)))
        self.assertIs(are_adjacent(PAIR, ("c", 1), ("s", 1)), True)
        self.assertIs(are_adjacent(PAIR, ("c", 1), ("s", 2)), False)
        self.assertIs(is_apart(PAIR, 3, (("c", 2), ("s", 1))), True)
        self.assertIs(is_matching(PAIR, 3, ((("c", 1), ("c", 2)),)), True)
        schedule = (("c", "rb"), ("s", "rc"), ("c", "rd"), ("s", "rd"))
        self.assertEqual(skips(PAIR, CHAIN, "ra", "rd", schedule), (("c", 2), ("s", 1)))


class Nodes(unittest.TestCase):
    def test_all_distances(self):
        for network in (PAIR, STAR, RING, WITH_LONE, ALONE, ring(12), two_sides(6, 6), row(5)):
            for distance in range(14):
                found = nodes(network, distance)
                self.assertEqual(found, tuple(sorted(search.all_nodes(network, distance))))
                self.assertIs(type(found), tuple)
                self.assertEqual({type(level) for _, level in found}, {int} if found else set())

    def test_number_of_nodes(self):
        for distance in range(12):
            self.assertEqual(len(nodes(STAR, distance)), 3 * max(0, distance - 1))
            self.assertEqual(len(nodes(WITH_LONE, distance)), 3 * max(0, distance - 1))
            self.assertEqual(nodes(ALONE, distance), ())

    def test_lone_services_have_none(self):
        self.assertEqual(nodes(WITH_LONE, 3), (("a", 1), ("a", 2), ("c", 1), ("c", 2), ("d", 1), ("d", 2)))
        self.assertEqual(nodes((("a", "b", "z"), (("a", "z"),)), 2), (("a", 1), ("z", 1)))


class Adjacent(unittest.TestCase):
    def check_all_pairs(self, network, distance):
        for one, other in itertools.product(search.all_nodes(network, distance), repeat=2):
            self.assertIs(are_adjacent(network, one, other), search.adjacent(network, one, other))

    def test_all_pairs(self):
        for network in (PAIR, STAR, RING, WITH_LONE, ring(5), two_sides(2, 3)):
            for distance in range(6):
                self.check_all_pairs(network, distance)

    def test_great_distances(self):
        for distance in range(6, 12):
            self.check_all_pairs(PAIR, distance)
        self.check_all_pairs(WITH_LONE, 11)

    def test_steps(self):
        self.assertIs(are_adjacent(PAIR, ("c", 10), ("c", 9)), True)
        self.assertIs(are_adjacent(PAIR, ("c", 1), ("c", 3)), False)
        self.assertIs(are_adjacent(PAIR, ("c", 3), ("c", 1)), False)
        self.assertIs(are_adjacent(PAIR, ("c", 4), ("c", 4)), False)
        self.assertIs(are_adjacent(PAIR, ("s", 10), ("c", 10)), True)
        self.assertIs(are_adjacent(STAR, ("k", 1), ("m", 1)), False)


class Apart(unittest.TestCase):
    def check(self, network, distance, value, expected):
        check_any_value(self, lambda given: is_apart(network, distance, given), value, expected)

    def test_all_short_tuples(self):
        for network in (PAIR, STAR, network_of("abc", "bc")):
            for distance in range(4):
                right = set(search.all_apart(network, distance))
                for many in range(4):
                    for value in itertools.product(itertools.product(network[0], range(4)), repeat=many):
                        self.assertIs(is_apart(network, distance, value), value in right)

    def test_all_sets_of_nodes(self):
        for network, distance in SMALL_GRIDS:
            right = set(search.all_apart(network, distance))
            grid = search.all_nodes(network, distance)
            for many in range(len(grid) + 1):
                for value in itertools.combinations(grid, many):
                    self.assertIs(is_apart(network, distance, value), value in right)

    def test_variants(self):
        for network, distance in SMALL_GRIDS:
            right = {repr(value) for value in search.all_apart(network, distance)}
            for given in ((), max(search.all_apart(network, distance), key=len)):
                for value in variants(given):
                    self.check(network, distance, value, repr(value) in right)

    def test_any_value(self):
        for value in any_values():
            for network, distance in ((PAIR, 3), (PAIR, 0), (ALONE, 5)):
                self.check(network, distance, value, repr(value) == "()")
                for given in ((value,), (("c", value),), ((value, 1),), (("c", 2), value), (("c", 1), (value, 2))):
                    right = network == PAIR and distance == 3 and repr(given) in ("(('c', 1),)", "(('c', 2),)")
                    self.check(network, distance, given, right)

    def test_booleans_are_not_levels(self):
        for value in ((("c", True),), (("c", True), ("s", 2)), (("c", 2), ("s", True)), (("c", False),)):
            self.check(PAIR, 3, value, False)

    def test_levels_beyond_the_distance(self):
        for distance in range(12):
            for level in range(-1, 14):
                self.check(PAIR, distance, (("s", level),), 1 <= level < distance)

    def test_lone_services_have_no_nodes(self):
        self.check(WITH_LONE, 3, (("b", 1),), False)
        self.check(WITH_LONE, 3, (("a", 1), ("b", 2), ("c", 2)), False)
        self.check(WITH_LONE, 3, (("a", 1), ("c", 2)), True)
        self.check(ALONE, 3, (("a", 1),), False)

    def test_greatest_grids(self):
        network = two_sides(6, 6)
        checkered = tuple((name, level) for name, level in search.all_nodes(network, 11)
                          if (name in network[0][:6]) == (level % 2 == 1))
        self.assertEqual(len(checkered), 60)
        self.check(network, 11, checkered, True)
        self.check(network, 10, checkered, False)
        self.check(network, 11, checkered[:-1] + (("l", 9), ("l", 10)), False)
        self.check(network, 11, (("a", 1), ("a", 2)) + checkered[1:], False)
        self.check(network, 11, tuple(search.all_nodes(network, 11)), False)
        self.check(network, 11, checkered[::-1], False)


class Matchings(unittest.TestCase):
    def check(self, network, distance, value, expected):
        check_any_value(self, lambda given: is_matching(network, distance, given), value, expected)

    def test_all_short_tuples(self):
        for network, distance in ((PAIR, 2), (PAIR, 3), (network_of("abc", "bc"), 2), (ALONE, 3)):
            right = set(search.all_matchings(network, distance))
            pairs = list(itertools.product(itertools.product(network[0], (1, 2, 3)), repeat=2))
            for many in range(3):
                for value in itertools.product(pairs, repeat=many):
                    self.assertIs(is_matching(network, distance, value), value in right)

    def test_all_sets_of_pairs(self):
        for network, distance in SMALL_GRIDS:
            right = set(search.all_matchings(network, distance))
            pairs = list(itertools.combinations(search.all_nodes(network, distance), 2))
            for many in range(4):
                for value in itertools.combinations(pairs, many):
                    self.assertIs(is_matching(network, distance, value), value in right)
            for value in right:
                self.check(network, distance, value, True)

    def test_variants(self):
        for network, distance in SMALL_GRIDS:
            right = {repr(value) for value in search.all_matchings(network, distance)}
            for given in ((), max(search.all_matchings(network, distance), key=len)[:2]):
                for value in variants(given):
                    self.check(network, distance, value, repr(value) in right)

    def test_any_value(self):
        node = ("c", 1)
        for value in any_values():
            self.check(PAIR, 3, value, repr(value) == "()")
            for given in ((value,), ((node, value),), ((value, node),), ((node, ("s", value)),), ((node, (value, 1)),)):
                self.check(PAIR, 3, given, repr(given) == "((('c', 1), ('s', 1)),)")
            self.check(PAIR, 3, ((node, ("s", 1)), value), False)

    def test_the_lesser_node_stands_first(self):
        self.check(PAIR, 3, ((("c", 1), ("s", 1)),), True)
        self.check(PAIR, 3, ((("s", 1), ("c", 1)),), False)
        self.check(PAIR, 3, ((("c", 2), ("c", 1)),), False)
        self.check(PAIR, 3, ((("c", 1), ("c", 1)),), False)

    def test_pairs_are_ascending(self):
        pairs = ((("c", 1), ("s", 1)), (("c", 2), ("s", 2)), (("c", 3), ("s", 3)))
        for order in itertools.permutations(pairs):
            self.check(PAIR, 4, order, order == pairs)
        self.check(PAIR, 4, pairs + pairs[2:], False)

    def test_no_node_in_two_pairs(self):
        for other in ((("c", 2), ("c", 3)), (("c", 2), ("s", 2)), (("s", 1), ("s", 2))):
            self.check(PAIR, 4, ((("c", 1), ("c", 2)), other), other == (("s", 1), ("s", 2)))
        self.check(STAR, 2, ((("k", 1), ("s", 1)), (("m", 1), ("s", 1))), False)

    def test_nodes_of_the_grid_only(self):
        for distance in range(12):
            for level in range(14):
                self.check(PAIR, distance, ((("c", level), ("s", level)),), 1 <= level < distance)
                fits = 1 <= level < distance - 1
                self.check(PAIR, distance, ((("c", level), ("c", level + 1)),), fits)
        self.check(WITH_LONE, 3, ((("b", 1), ("b", 2)),), False)
        self.check(WITH_LONE, 3, ((("a", 1), ("b", 1)),), False)
        self.check(PAIR, 3, ((("c", True), ("s", 1)),), False)
        self.check(PAIR, 3, ((("c", 1), ("s", True)),), False)

    def test_greatest_grids(self):
        network = two_sides(6, 6)
        sides = zip("abcdef", "ghijkl")
        pairs = tuple(((one, level), (other, level)) for one, other in sides for level in range(1, 11))
        self.check(network, 11, pairs, True)
        self.check(network, 10, pairs, False)
        self.check(network, 11, pairs[:-1] + pairs[-2:], False)
        self.check(network, 11, pairs[:-1] + ((("f", 10), ("k", 10)),), False)
        self.check(network, 11, pairs[:-1], True)


class Skips(unittest.TestCase):
    def check_upgrades(self, network, catalog, start, end, most):
        upgrades = search.all_upgrades(network, catalog, start, end, most)
        self.assertTrue(upgrades)
        found = set()
        for schedule in upgrades:
            expected = search.skipped(network, catalog, start, end, schedule)
            self.assertEqual(skips(network, catalog, start, end, schedule), expected)
            found.add(expected)
        steps = search.distances(catalog, start).get(end, 0)
        # Why guarantee (a) holds: what is skipped is apart, and each apart set can be skipped.
        self.assertLessEqual(found, set(search.all_apart(network, steps)))
        return found

    def test_all_short_upgrades(self):
        for end, most in (("ra", 5), ("rb", 5), ("rc", 6), ("rd", 6)):
            found = self.check_upgrades(PAIR, CHAIN, "ra", end, most)
            steps = "abcd".index(end[1])
            expected = {apart for apart in search.all_apart(PAIR, steps) if 2 * steps - len(apart) <= most}
            self.assertEqual(found, expected)

    def test_all_short_upgrades_of_other_networks(self):
        self.assertEqual(len(self.check_upgrades(STAR, CHAIN[:3], "ra", "rc", 6)), 5)
        self.assertEqual(len(self.check_upgrades(RING, CHAIN[:3], "rc", "ra", 6)), 4)
        self.assertEqual(len(self.check_upgrades(network_of("abc", "ac"), CHAIN[:3], "ra", "rc", 5)), 3)
        self.check_upgrades(PAIR, BRANCHES, "ra", "rf", 5)
        self.check_upgrades(PAIR, BRANCHES, "rd", "rc", 4)

    def test_detours(self):
        there = (("c", "rb"), ("s", "rc"), ("c", "rd"), ("s", "rd"))
        back = (("c", "rc"), ("s", "rc"), ("c", "rb"), ("c", "rc"), ("c", "rd"), ("s", "rd"))
        self.assertEqual(skips(PAIR, CHAIN, "ra", "rd", there + back), (("s", 1),))
        twice = (("s", "rb"), ("c", "rc"), ("c", "rb"), ("c", "rc"), ("s", "rc"))
        self.assertEqual(skips(PAIR, CHAIN, "ra", "rc", twice), ())
        self.assertEqual(skips(PAIR, CHAIN, "ra", "rb", (("s", "rb"), ("c", "rc"), ("c", "rb"))), ())

    def test_releases_of_farther_levels(self):
        beyond = (("s", "rb"), ("c", "rc"), ("s", "rd"), ("s", "rc"))
        self.assertEqual(skips(PAIR, CHAIN, "ra", "rc", beyond), (("c", 1),))

    def test_releases_of_the_same_level(self):
        # c passes level 1 by rc, and s skips it; which release of a level it is does not matter.
        schedule = (("c", "rc"), ("s", "re"), ("c", "rf"), ("s", "rf"))
        self.assertEqual(skips(PAIR, BRANCHES, "ra", "rf", schedule), (("c", 2), ("s", 1)))
        both = (("c", "rb"), ("c", "rc"), ("s", "re"), ("c", "rf"), ("s", "rf"))
        self.assertEqual(skips(PAIR, BRANCHES, "ra", "rf", both), (("c", 2), ("s", 1)))
        aside = (("s", "rc"), ("c", "rb"), ("s", "rb"), ("c", "rd"), ("s", "rd"))
        self.assertEqual(skips(PAIR, BRANCHES, "ra", "rd", aside), ())

    def test_lone_services_do_not_count(self):
        schedule = (("b", "rg"), ("a", "rb"), ("c", "rd"), ("a", "rd"), ("b", "rd"))
        network = network_of("abc", "ac")
        self.assertEqual(skips(network, BRANCHES, "ra", "rd", schedule), (("c", 1),))

    def test_start_is_end(self):
        around = (("c", "rb"), ("s", "rc"), ("s", "rb"), ("s", "ra"), ("c", "ra"))
        for schedule in ((), around, (("c", "ra"),)):
            self.assertEqual(skips(PAIR, CHAIN, "ra", "ra", schedule), ())
        self.assertEqual(skips(RING, CHAIN, "rb", "rb", ()), ())

    def test_no_two_services_talk(self):
        for end in ("rb", "rd", "rf", "rg"):
            self.assertEqual(skips(ALONE, BRANCHES, "ra", end, (("a", end), ("b", "rc"), ("b", end))), ())
        self.assertEqual(skips(ALONE, BRANCHES, "rg", "rg", ()), ())

    def test_400_replacements(self):
        schedule = (("c", "rb"), ("c", "ra")) * 198 + (("c", "rb"), ("s", "rc"), ("c", "rd"), ("s", "rd"))
        self.assertEqual(len(schedule), 400)
        self.assertEqual(skips(PAIR, CHAIN, "ra", "rd", schedule), (("c", 2), ("s", 1)))
        longer = (("c", "ra"),) + schedule
        check_refused(self, lambda: skips(PAIR, CHAIN, "ra", "rd", longer), NotUpgrade, longer)


class Refusals(unittest.TestCase):
    def test_no_release(self):
        for value in any_values() + ["re", "c"]:
            for schedule in ((), (("c", "rb"), ("s", "rb")), value):
                check_refused(self, lambda: skips(PAIR, CHAIN, value, "rb", schedule), NoRelease, value)
                check_refused(self, lambda: skips(PAIR, CHAIN, "ra", value, schedule), NoRelease, value)

    def test_start_then_end_then_schedule(self):
        first, second, third = ["first"], ["second"], ["third"]
        check_refused(self, lambda: skips(PAIR, CHAIN, first, second, third), NoRelease, first)
        check_refused(self, lambda: skips(PAIR, CHAIN, "ra", second, third), NoRelease, second)
        check_refused(self, lambda: skips(PAIR, CHAIN, "ra", "rb", third), NotUpgrade, third)
        check_refused(self, lambda: skips(end=second, start=first, schedule=third, catalog=CHAIN, network=PAIR),
                      NoRelease, first)

    def check_schedule(self, network, catalog, start, end, value):
        if search.is_upgrade(network, catalog, start, end, value):
            expected = search.skipped(network, catalog, start, end, value)
            before = copy.deepcopy(value)
            self.assertEqual(skips(network, catalog, start, end, value), expected)
            self.assertEqual(repr(value), repr(before))
        else:
            check_refused(self, lambda: skips(network, catalog, start, end, value), NotUpgrade, value)

    def test_any_value(self):
        for value in any_values():
            self.check_schedule(PAIR, CHAIN, "ra", "rc", value)
            self.check_schedule(PAIR, CHAIN, "ra", "ra", value)
            self.check_schedule(ALONE, CHAIN, "ra", "rd", value)

    def test_variants(self):
        for value in variants((("c", "rb"), ("s", "rc"), ("c", "rc"))):
            self.check_schedule(PAIR, CHAIN, "ra", "rc", value)
        for value in variants((("a", "rc"), ("b", "rc"))):
            self.check_schedule(ALONE, CHAIN, "ra", "rc", value)

    def test_schedules_that_lead_elsewhere(self):
        there = (("c", "rb"), ("s", "rc"), ("c", "rd"), ("s", "rd"))
        for start, end in itertools.product(("ra", "rb", "rc", "rd"), repeat=2):
            for at in range(5):
                for schedule in (there[:at], there[at:]):
                    self.check_schedule(PAIR, CHAIN, start, end, schedule)

    def test_schedules_that_are_not_possible_in_between(self):
        for schedule in ((("c", "rc"), ("s", "rc")), (("c", "rd"), ("c", "rb"), ("s", "rb"))):
            for end in ("rb", "rc"):
                self.check_schedule(PAIR, CHAIN, "ra", end, schedule)

    def test_nothing_leads_to_what_cannot_be_reached(self):
        for schedule in ((), (("c", "rg"), ("s", "rg")), (("c", "rb"), ("s", "rg"), ("c", "rg"))):
            self.check_schedule(PAIR, BRANCHES, "ra", "rg", schedule)


class Calls(unittest.TestCase):
    def test_arguments_by_name_in_another_sequence(self):
        self.assertEqual(nodes(distance=2, network=PAIR), (("c", 1), ("s", 1)))
        self.assertIs(are_adjacent(other=("c", 2), one=("c", 1), network=PAIR), True)
        self.assertIs(is_apart(value=(("c", 1), ("s", 2)), distance=3, network=PAIR), True)
        self.assertIs(is_matching(value=((("c", 1), ("s", 1)),), distance=2, network=PAIR), True)
        schedule = (("c", "rb"), ("s", "rc"), ("c", "rc"))
        self.assertEqual(skips(schedule=schedule, end="rc", start="ra", catalog=CHAIN, network=PAIR), (("s", 1),))

    def test_arguments_are_not_changed_and_results_are_equal(self):
        given = (STAR, CHAIN, "ra", "rc", (("k", "rb"), ("m", "rb"), ("s", "rc"), ("k", "rc"), ("m", "rc")))
        same = copy.deepcopy(given)
        self.assertEqual(skips(*given), skips(*same))
        self.assertEqual(nodes(given[0], 7), nodes(same[0], 7))
        self.assertEqual(repr(given), repr(same))

    def test_somewhat_beyond_the_limits(self):
        names = tuple("service" + letter * 3 for letter in LETTERS)
        network = names, tuple(zip(names, names[1:]))
        self.assertEqual(len(nodes(network, 14)), 14 * 13)
        self.assertIs(is_apart(network, 14, ((names[0], 13), (names[1], 12))), True)
        self.assertIs(is_matching(network, 14, (((names[0], 13), (names[1], 13)),)), True)
        upgrade = tuple((name, release) for release in LETTERS[1:] for name in names)
        self.assertEqual(skips(network, chain(14), "a", "n", upgrade), ())


if __name__ == "__main__":
    unittest.main()
