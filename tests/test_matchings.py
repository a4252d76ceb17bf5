"""Section 9."""

import copy
import itertools
import unittest

from gridupgrade.errors import NotTwoSided
from gridupgrade.grids import is_apart, is_matching
from gridupgrade.matchings import cover, greatest_apart, greatest_matching
from gridupgrade.networks import odd_cycle, shows_odd_cycle
from tests import search
from tests.values import LETTERS, PAIR, RING, STAR, all_networks, network_of, ring, row, two_sides

FUNCTIONS = (greatest_matching, greatest_apart, cover)


class Examples(unittest.TestCase):
    def test_examples(self):
        self.assertEqual(len(greatest_matching(PAIR, 3)), 2)
        self.assertEqual(len(greatest_apart(PAIR, 3)), 2)
        self.assertEqual(greatest_apart(STAR, 2), (("k", 1), ("m", 1)))
        self.assertEqual(cover(STAR, 2), (("s", 1),))
        self.assertEqual(greatest_matching(STAR, 1), ())


class Checks(unittest.TestCase):
    def check(self, network, distance, pairs):
        """Check the form of all three results, and that there are so many pairs."""
        grid = search.all_nodes(network, distance)
        matching, apart, least = [function(network, distance) for function in FUNCTIONS]
        self.check_matching(network, grid, matching)
        for found in (apart, least):
            self.assertIs(type(found), tuple)
            self.assertEqual(list(found), sorted(set(found)))
            self.assertLessEqual(set(found), set(grid))
            self.assertEqual({type(level) for _, level in found}, {int} if found else set())
        self.assertFalse(any(search.adjacent(network, *pair) for pair in itertools.combinations(apart, 2)))
        for pair in itertools.combinations(grid, 2):
            self.assertTrue(not search.adjacent(network, *pair) or set(pair) & set(least))
        self.assertIs(is_apart(network, distance, apart), True)
        self.assertIs(is_matching(network, distance, matching), True)
        # All three are shown to be best by one another: each pair needs a node of the cover, and
        # what a cover leaves is apart.
        self.assertEqual(len(matching), pairs)
        self.assertEqual(len(least), pairs)
        self.assertEqual(len(apart) + pairs, len(grid))

    def check_matching(self, network, grid, matching):
        self.assertIs(type(matching), tuple)
        self.assertEqual(list(matching), sorted(matching))
        held = [node for pair in matching for node in pair]
        self.assertEqual(len(held), len(set(held)))
        self.assertLessEqual(set(held), set(grid))
        for pair in matching:
            self.assertIs(type(pair), tuple)
            self.assertLess(*pair)
            self.assertTrue(search.adjacent(network, *pair))


class SmallGrids(Checks):
    def check_by_search(self, network, distance):
        most_nodes = max(len(nodes) for nodes in search.all_apart(network, distance))
        self.check(network, distance, len(search.all_nodes(network, distance)) - most_nodes)

    def test_all_networks_of_four_services(self):
        for services in ("a", "ab", "abc", "abcd"):
            for network in all_networks(services):
                if odd_cycle(network) is None:
                    for distance in range(5):
                        self.check_by_search(network, distance)

    def test_matchings_by_search(self):
        for network in (PAIR, STAR, row(4), ring(4), network_of("abc", "ac")):
            for distance in range(4):
                most_pairs = max(len(pairs) for pairs in search.all_matchings(network, distance))
                self.check(network, distance, most_pairs)

    def test_some_networks_of_six_services(self):
        for network in list(all_networks("abcdef"))[::97]:
            if odd_cycle(network) is None:
                for distance in (2, 3, 4):
                    self.check_by_search(network, distance)

    def test_networks_in_which_a_greedy_choice_fails(self):
        for order in itertools.permutations("abcdef"):
            network = network_of("abcdef", *zip(order, order[1:]))
            self.check(network, 2, 3)
        for order in list(itertools.permutations("abcdefg"))[::31]:
            places = ((0, 1), (0, 2), (1, 3), (2, 4), (4, 5), (4, 6))
            tree = network_of("abcdefg", *[order[at] + order[to] for at, to in places])
            self.check_by_search(tree, 2)
            self.check_by_search(tree, 3)

    def test_lone_services_have_no_nodes(self):
        network = network_of("abcdefg", "bd", "df")
        for distance in range(6):
            self.check_by_search(network, distance)
        self.assertEqual(greatest_apart(network, 2), (("b", 1), ("f", 1)))

    def test_no_nodes(self):
        for function in FUNCTIONS:
            for distance in range(12):
                self.assertEqual(function((("a", "b", "c"), ()), distance), ())
            for network in (PAIR, STAR, two_sides(6, 6)):
                self.assertEqual(function(network, 0), ())
                self.assertEqual(function(network, 1), ())


class GreatGrids(Checks):
    def test_complete_two_sided_networks(self):
        for one in range(1, 12):
            for other in range(1, 13 - one):
                if one + other in (2, 5, 11, 12):
                    for distance in range(12):
                        self.check_complete(one, other, distance)

    def check_complete(self, one, other, distance):
        if one * other > 40:
            return
        # Two following levels hold at most all services together; only the whole sides, turn by
        # turn and the greater one first, give as many.
        levels = max(0, distance - 1)
        apart = levels // 2 * (one + other) + levels % 2 * max(one, other)
        self.check(two_sides(one, other), distance, levels * (one + other) - apart)

    def test_thirty_six_talks(self):
        network = two_sides(6, 6)
        self.assertEqual(len(network[1]), 36)
        self.check(network, 11, 60)
        self.check(network, 10, 54)

    def test_rows(self):
        for many in (2, 3, 7, 11, 12):
            for distance in range(12):
                self.check(row(many), distance, many * max(0, distance - 1) // 2)

    def test_even_rings(self):
        for many in (4, 6, 8, 10, 12):
            for distance in range(12):
                self.check(ring(many), distance, many * max(0, distance - 1) // 2)

    def test_several_parts_and_lone_services(self):
        tree = network_of("bdfhj", "bd", "bf", "bh", "hj")
        network = network_of("abcdefghijkl", "ac", "ce", *tree[1])
        for distance in range(12):
            in_row = 3 * max(0, distance - 1) // 2
            in_tree = len(greatest_matching(tree, distance))
            self.check(tree, distance, in_tree)
            self.check(network, distance, in_row + in_tree)

    def test_names_do_not_matter(self):
        for turn in range(12):
            names = LETTERS[turn:12] + LETTERS[:turn]
            network = network_of(names, *itertools.product(names[::3], names[1::3]), names[2] + names[3])
            self.assertIsNone(odd_cycle(network))
            sizes = [len(function(network, 11)) for function in FUNCTIONS]
            self.assertEqual(sizes[0], sizes[2])
            self.check(network, 11, sizes[0])


class OddCycles(unittest.TestCase):
    def test_not_two_sided_whatever_the_distance_is(self):
        with_others = network_of("abcdef", "ab", "de", "ef", "df")
        for network in (RING, ring(5), ring(11), with_others, network_of("abcd", "bc", "cd", "bd")):
            for function in FUNCTIONS:
                for distance in range(12):
                    with self.assertRaises(NotTwoSided) as caught:
                        function(network, distance)
                    self.assertIs(shows_odd_cycle(network, caught.exception.cycle), True)

    def test_all_networks_of_four_services(self):
        for network in all_networks("abcd"):
            if odd_cycle(network) is not None:
                for function in FUNCTIONS:
                    self.assertRaises(NotTwoSided, function, network, 2)


class Calls(unittest.TestCase):
    def test_arguments_by_name_in_another_sequence(self):
        for function in FUNCTIONS:
            for network in (STAR, ring(6)):
                self.assertEqual(function(distance=4, network=network), function(network, 4))
            self.assertRaises(NotTwoSided, lambda: function(distance=0, network=RING))

    def test_arguments_are_not_changed_and_results_are_equal(self):
        for network in (PAIR, STAR, ring(8), two_sides(3, 4)):
            same = copy.deepcopy(network)
            for function in FUNCTIONS:
                for distance in (0, 1, 2, 5, 11):
                    self.assertEqual(function(network, distance), function(same, distance))
            self.assertEqual(repr(network), repr(same))

    def test_somewhat_beyond_the_limits(self):
        for network in (two_sides(7, 7), ring(14), row(14)):
            for distance in (12, 14):
                sizes = [len(function(network, distance)) for function in FUNCTIONS]
                self.assertEqual(sizes, [7 * (distance - 1)] * 3)


if __name__ == "__main__":
    unittest.main()
