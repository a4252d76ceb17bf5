"""Section 12, and guarantee (d) of section 4."""

import copy
import itertools
import unittest

from gridupgrade.choices import fewest_without, may_skip, must_skip
from gridupgrade.errors import NotTwoSided
from gridupgrade.matchings import greatest_apart
from gridupgrade.networks import odd_cycle, shows_odd_cycle
from tests import search
from tests.values import (
    ALONE, CHAIN, LETTERS, PAIR, RING, STAR, WITH_LONE, all_networks, network_of, ring, row, two_sides,
)

NETWORKS = [network for many in (1, 2, 3, 4) for network in all_networks("abcd"[:many]) if odd_cycle(network) is None]


class Examples(unittest.TestCase):
    def test_examples(self):
        self.assertEqual(may_skip(PAIR, 2), (("c", 1), ("s", 1)))
        self.assertEqual(must_skip(PAIR, 2), ())
        self.assertEqual(must_skip(STAR, 2), (("k", 1), ("m", 1)))
        self.assertEqual(may_skip(STAR, 2), (("k", 1), ("m", 1)))
        self.assertEqual(fewest_without(STAR, 2, (("k", 1),)), 5)


class MayAndMust(unittest.TestCase):
    def check(self, network, distance, may, must):
        for function, expected in ((may_skip, may), (must_skip, must)):
            found = function(network, distance)
            self.assertEqual(found, tuple(sorted(expected)))
            self.assertIs(type(found), tuple)
            self.assertEqual({type(level) for _, level in found}, {int} if found else set())

    def check_by_search(self, network, distance):
        every = search.all_apart(network, distance)
        most = max(len(nodes) for nodes in every)
        greatest = [set(nodes) for nodes in every if len(nodes) == most]
        self.check(network, distance, set.union(*greatest), set.intersection(*greatest))

    def test_all_networks_of_up_to_four_services(self):
        for network in NETWORKS:
            for distance in range(5):
                self.check_by_search(network, distance)

    def test_distance_five(self):
        for network in (PAIR, STAR, row(4), ring(4), WITH_LONE, network_of("abcd", "ab", "cd"), two_sides(1, 3)):
            self.check_by_search(network, 5)

    def test_five_and_six_services(self):
        networks = [network for network in list(all_networks("abcde"))[::37] if odd_cycle(network) is None]
        networks += [network_of("abcdef", "ab", "ac", "bd", "be", "cf"), ring(6), row(6), two_sides(2, 4)]
        for network in networks:
            for distance in (2, 3, 4):
                self.check_by_search(network, distance)

    def test_upgrades_with_the_fewest_replacements(self):
        cases = ((PAIR, "rb", 1, 2), (PAIR, "rc", 2, 3), (PAIR, "rd", 3, 4), (STAR, "rc", 2, 4),
                 (network_of("abc", "bc"), "rc", 2, 4))
        for network, end, steps, many in cases:
            upgrades = search.all_upgrades(network, CHAIN[:steps + 1], "ra", end, many)
            self.assertEqual({len(schedule) for schedule in upgrades}, {many})
            found = [set(search.skipped(network, CHAIN, "ra", end, schedule)) for schedule in upgrades]
            self.check(network, steps, set.union(*found), set.intersection(*found))

    def test_two_sides_of_the_same_size(self):
        for many in (1, 2, 4, 6):
            network = two_sides(many, many)
            for distance in range(12):
                grid = search.all_nodes(network, distance)
                self.check(network, distance, grid, [])

    def test_a_greater_side(self):
        for many, others in ((2, 1), (5, 2), (11, 1), (7, 5)):
            network = two_sides(many, others)
            greater = network[0][:many]
            for distance in range(12):
                grid = search.all_nodes(network, distance)
                if distance % 2 and distance < 8:
                    # An even number of levels: either side may begin, and they may change places.
                    self.check_ends(network, distance)
                elif distance % 2 == 0:
                    turns = [node for node in grid if (node[0] in greater) == (node[1] % 2 == 1)]
                    self.check(network, distance, turns, turns)

    def check_ends(self, network, distance):
        """Check against what stays if a node must be skipped, or must not be."""
        grid = search.all_nodes(network, distance)
        most = len(greatest_apart(network, distance))
        busy = len(search.busy(network))
        must = [node for node in grid if fewest_without(network, distance, (node,)) > distance * busy - most]
        may = []
        for node in grid:
            around = tuple(sorted(other for other in grid if search.adjacent(network, node, other)))
            if fewest_without(network, distance, around) == distance * busy - most:
                may.append(node)
        self.check(network, distance, may, must)

    def test_great_grids_of_other_networks(self):
        tree = network_of("abcdefghij", "ab", "ac", "ad", "be", "bf", "cg", "gh", "gi", "ij")
        for network in (tree, row(12), row(11), ring(12), network_of(LETTERS[:12], "ac", "ce", "bd", "fh", "fi", "fl")):
            for distance in (2, 3, 4, 7):
                self.check_ends(network, distance)
        self.check_ends(tree, 11)

    def test_rows(self):
        for many in (2, 4, 12):
            for distance in range(12):
                self.check(row(many), distance, search.all_nodes(row(many), distance), [])
        for many in (3, 7, 11):
            for distance in (2, 4, 10):
                # Of an odd number of nodes in each direction, every other one.
                grid = search.all_nodes(row(many), distance)
                turns = [node for node in grid if LETTERS.index(node[0]) % 2 != node[1] % 2]
                self.check(row(many), distance, turns, turns)

    def test_several_parts_and_lone_services(self):
        network = network_of("abcdefg", "ac", "ce", "bf")
        self.check(network, 2, [("a", 1), ("b", 1), ("e", 1), ("f", 1)], [("a", 1), ("e", 1)])
        self.check(WITH_LONE, 2, [("a", 1), ("d", 1)], [("a", 1), ("d", 1)])

    def test_no_nodes(self):
        for function in (may_skip, must_skip):
            for distance in range(12):
                self.assertEqual(function(ALONE, distance), ())
            for network in (PAIR, STAR, two_sides(6, 6)):
                self.assertEqual(function(network, 0), ())
                self.assertEqual(function(network, 1), ())


class FewestWithout(unittest.TestCase):
    def check(self, network, distance, barred, expected):
        found = fewest_without(network, distance, barred)
        self.assertEqual(found, expected)
        self.assertIs(type(found), int)

    def expected(self, network, distance, barred):
        """Return the number that the list of all apart sets tells."""
        most = max(len(nodes) for nodes in search.all_apart(network, distance) if not set(nodes) & set(barred))
        return distance * len(search.busy(network)) - most

    def test_each_set_of_barred_nodes(self):
        for network, distance in ((PAIR, 2), (PAIR, 3), (PAIR, 4), (STAR, 2), (STAR, 3), (row(4), 2), (WITH_LONE, 3)):
            grid = sorted(search.all_nodes(network, distance))
            for many in range(len(grid) + 1):
                for barred in itertools.combinations(grid, many):
                    self.check(network, distance, barred, self.expected(network, distance, barred))

    def test_some_nodes_of_other_networks(self):
        for network in NETWORKS:
            for distance in range(5):
                grid = sorted(search.all_nodes(network, distance))
                for barred in ((), grid[:1], grid[::2], grid[1::3], grid[:len(grid) // 2], grid):
                    self.check(network, distance, tuple(barred), self.expected(network, distance, barred))

    def test_distance_five(self):
        for network in (row(4), ring(4), two_sides(1, 3)):
            grid = sorted(search.all_nodes(network, 5))
            for barred in ((), grid[::3], grid[::2], grid[4:], grid):
                self.check(network, 5, tuple(barred), self.expected(network, 5, barred))

    def test_upgrades_that_do_not_skip_the_barred_nodes(self):
        for network, end, steps, most in ((PAIR, "rc", 2, 4), (PAIR, "rd", 3, 5), (STAR, "rc", 2, 5)):
            upgrades = search.all_upgrades(network, CHAIN[:steps + 1], "ra", end, most)
            skips = {schedule: set(search.skipped(network, CHAIN, "ra", end, schedule)) for schedule in upgrades}
            grid = sorted(search.all_nodes(network, steps))
            for many in range(len(grid) + 1):
                for barred in itertools.combinations(grid, many):
                    lengths = [len(schedule) for schedule in upgrades if not skips[schedule] & set(barred)]
                    if lengths:
                        self.check(network, steps, barred, min(lengths))
                    else:
                        self.assertGreater(fewest_without(network, steps, barred), most)

    def test_no_node_and_all_nodes(self):
        for network, busy in ((two_sides(6, 6), 12), (row(11), 11), (WITH_LONE, 3), (ALONE, 0), (STAR, 3)):
            for distance in range(12):
                grid = tuple(sorted(search.all_nodes(network, distance)))
                self.check(network, distance, grid, distance * busy)
                self.check(network, distance, (), distance * busy - len(greatest_apart(network, distance)))

    def test_one_side_or_some_levels_of_a_great_grid(self):
        network = two_sides(7, 5)
        grid = search.all_nodes(network, 11)
        left, right = [tuple(node for node in grid if node[0] in side) for side in (network[0][:7], network[0][7:])]
        self.check(network, 11, left, 12 * 11 - 5 * 5)
        self.check(network, 11, right, 12 * 11 - 5 * 7)
        for level in range(1, 11):
            barred = tuple(node for node in grid if node[1] == level)
            # What is left are so many levels before and so many behind it.
            before, behind = level - 1, 10 - level
            most = sum(levels // 2 * 12 + levels % 2 * 7 for levels in (before, behind))
            self.check(network, 11, barred, 12 * 11 - most)

    def test_services_that_are_lone_do_not_count(self):
        for distance in range(12):
            self.check(ALONE, distance, (), 0)
        self.check(WITH_LONE, 2, (), 4)
        self.check(WITH_LONE, 2, (("a", 1),), 5)
        self.check(WITH_LONE, 2, (("c", 1),), 4)
        self.check(WITH_LONE, 2, (("a", 1), ("d", 1)), 5)
        self.check(WITH_LONE, 1, (), 3)
        self.check(WITH_LONE, 0, (), 0)


class OddCycles(unittest.TestCase):
    def refused(self, function, *given):
        with self.assertRaises(NotTwoSided) as caught:
            function(*given)
        self.assertIs(shows_odd_cycle(given[0], caught.exception.cycle), True)

    def test_not_two_sided_whatever_the_distance_is(self):
        with_others = network_of("abcdef", "ab", "de", "ef", "df")
        for network in (RING, ring(5), ring(11), with_others, network_of("abcd", "bc", "cd", "bd")):
            for distance in range(12):
                self.refused(may_skip, network, distance)
                self.refused(must_skip, network, distance)
                self.refused(fewest_without, network, distance, ())
                self.refused(fewest_without, network, distance, tuple(sorted(search.all_nodes(network, distance))))


class Calls(unittest.TestCase):
    def test_arguments_by_name_in_another_sequence(self):
        for network in (STAR, ring(6)):
            for function in (may_skip, must_skip):
                self.assertEqual(function(distance=4, network=network), function(network, 4))
            barred = ((network[0][0], 1),)
            self.assertEqual(fewest_without(barred=barred, distance=4, network=network),
                             fewest_without(network, 4, barred))
        self.assertRaises(NotTwoSided, lambda: fewest_without(barred=(), distance=0, network=RING))

    def test_arguments_are_not_changed_and_results_are_equal(self):
        for network in (PAIR, STAR, ring(8), two_sides(3, 4)):
            barred = tuple((name, 1) for name in network[0])
            same, same_barred = copy.deepcopy(network), copy.deepcopy(barred)
            for distance in (2, 5, 11):
                for function in (may_skip, must_skip):
                    self.assertEqual(function(network, distance), function(same, distance))
                self.assertEqual(fewest_without(network, distance, barred), fewest_without(same, distance, same_barred))
            self.assertEqual([repr(network), repr(barred)], [repr(same), repr(same_barred)])

    def test_somewhat_beyond_the_limits(self):
        network = two_sides(7, 7)
        for distance in (12, 14):
            self.assertEqual(len(may_skip(network, distance)), 14 * (distance - 1))
            self.assertEqual(must_skip(network, distance), ())
            self.assertEqual(fewest_without(network, distance, ()), 14 * distance - 7 * (distance - 1))


if __name__ == "__main__":
    unittest.main()
