"""Section 14, and guarantee (f) of section 4."""

import copy
import itertools
import unittest

from gridupgrade.errors import BadState, NoRelease, TooLarge, Unreachable
from gridupgrade.grids import is_apart
from gridupgrade.matchings import greatest_apart
from gridupgrade.networks import odd_cycle
from gridupgrade.small import fewest_any, greatest_any, search
from gridupgrade.upgrades import fewest, schedule_with
from tests import search as slow
from tests.values import (
    ALONE, CHAIN, GAP, LETTERS, PAIR, RING, STAR, TWO_WAYS, WITH_LONE, all_graphs, all_networks, any_values, catalog_of,
    chain, check_refused, network_of, ring, row, two_sides, variants,
)


def complete(many):
    """Return a network of so many services, each of which talks to each other one."""
    return network_of(LETTERS[:many], *itertools.combinations(LETTERS[:many], 2))


class Examples(unittest.TestCase):
    def test_examples(self):
        self.assertEqual(fewest_any(RING, CHAIN, "ra", "rc"), 5)
        self.assertEqual(len(greatest_any(RING, 2)), 1)
        self.assertEqual(search(PAIR, CHAIN, ("ra", "rb"), ("rc", "rb")), (("c", "rc"),))
        self.assertEqual(len(search(RING, CHAIN, ("ra",) * 3, ("rc",) * 3)), 5)


class GreatestAny(unittest.TestCase):
    def check(self, network, distance, many):
        found = greatest_any(network, distance)
        self.assertIn(found, [tuple(sorted(nodes)) for nodes in slow.all_apart(network, distance)])
        self.assertIs(is_apart(network, distance, found), True)
        self.assertEqual(len(found), many)
        self.assertIs(type(found), tuple)

    def check_by_search(self, network, distance):
        self.check(network, distance, max(len(nodes) for nodes in slow.all_apart(network, distance)))

    def test_all_networks_of_up_to_four_services(self):
        for many in (1, 2, 3, 4):
            for network in all_networks("abcd"[:many]):
                for distance in range(5):
                    self.check_by_search(network, distance)

    def test_sixteen_nodes(self):
        for network in (complete(4), ring(4), row(4), network_of("abcd", "ab", "bc", "ac", "cd")):
            self.check_by_search(network, 5)
        for network in (PAIR, network_of("abcde", "be")):
            self.check_by_search(network, 9)
        parted = network_of("abcdefgh", "ab", "bc", "ac", "de", "ef", "df", "gh")
        for network in (ring(8), complete(8), ring(7), parted):
            self.check_by_search(network, 3)

    def test_some_networks_of_five_services(self):
        for network in list(all_networks("abcde"))[::29]:
            for distance in (2, 3, 4):
                self.check_by_search(network, distance)

    def test_two_sided_networks_beside_greatest_apart(self):
        for network, distance in ((row(8), 3), (two_sides(4, 4), 3), (two_sides(1, 7), 3), (row(5), 4), (row(12), 2)):
            self.assertEqual(len(greatest_any(network, distance)), len(greatest_apart(network, distance)))

    def test_seventeen_nodes_and_more(self):
        names = tuple(letter + letter for letter in "abcdefghijklmnopq")
        seventeen = network_of(names, *zip(names, names[1:]))
        for network, distance, many in ((seventeen, 2, 17), (PAIR, 10, 18), (complete(9), 3, 18), (STAR, 7, 18),
                                        (RING, 11, 30), (ring(12), 3, 24), (two_sides(6, 6), 11, 120)):
            self.assertEqual(len(slow.all_nodes(network, distance)), many)
            with self.assertRaises(TooLarge) as caught:
                greatest_any(network, distance)
            self.assertEqual(caught.exception.limit, 16)
        for network, distance in ((PAIR, 9), (complete(8), 3), (RING, 6), (ring(12), 2)):
            self.assertLessEqual(len(slow.all_nodes(network, distance)), 16)
            self.assertTrue(greatest_any(network, distance))

    def test_lone_services_have_no_nodes(self):
        network = network_of(LETTERS[:12], "ab")
        self.assertEqual(greatest_any((tuple(LETTERS[:12]), ()), 11), ())
        for distance in range(10):
            self.assertEqual(len(greatest_any(network, distance)), max(0, distance - 1))
        self.assertRaises(TooLarge, greatest_any, network, 10)

    def test_no_nodes(self):
        for network in (PAIR, RING, complete(9), two_sides(6, 6)):
            self.assertEqual(greatest_any(network, 0), ())
            self.assertEqual(greatest_any(network, 1), ())


class FewestAny(unittest.TestCase):
    def check(self, network, catalog, start, end, many):
        found = fewest_any(network, catalog, start, end)
        self.assertEqual(found, many)
        self.assertIs(type(found), int)

    def check_by_search(self, network, catalog, start):
        least = slow.least_steps(network, catalog, start)
        for end, _ in catalog:
            many = least.get((end,) * len(network[0]))
            if many is None:
                self.check_unreachable(network, catalog, start, end)
            else:
                self.check(network, catalog, start, end, many)

    def check_unreachable(self, network, catalog, start, end):
        with self.assertRaises(Unreachable) as caught:
            fewest_any(network, catalog, start, end)
        self.assertEqual(caught.exception.names, tuple(sorted(slow.distances(catalog, start))))

    def test_all_networks_of_four_services(self):
        for network in all_networks("abcd"):
            self.check_by_search(network, CHAIN, "ra")
            self.check_by_search(network, TWO_WAYS, "rd")

    def test_all_catalogs_of_four_releases(self):
        for pairs in all_graphs(("ra", "rb", "rc", "rd")):
            catalog = catalog_of(("ra", "rb", "rc", "rd"), pairs)
            for network in (RING, STAR, network_of("abcd", "ab", "bc", "ac"), *all_networks("ab")):
                self.check_by_search(network, catalog, "rb")

    def test_longer_ways(self):
        self.check_by_search(RING, chain(6), "a")
        self.check_by_search(complete(4), chain(5), "a")
        self.check_by_search(ring(5), chain(4), "a")

    def test_by_apart_sets(self):
        for network in (complete(8), ring(7), network_of("abcdefgh", "ab", "bc", "ac", "de", "ef", "df")):
            busy = len(slow.busy(network))
            for steps in (1, 2, 3):
                most = max(slow.all_apart(network, steps), key=len)
                lone = len(network[0]) - busy
                self.check(network, chain(4), "a", LETTERS[steps], lone + busy * steps - len(most))
                schedule = schedule_with(network, chain(4), tuple(LETTERS[:steps + 1]), most)
                self.assertEqual(len(schedule), lone + busy * steps - len(most))

    def test_two_sided_networks_beside_fewest(self):
        for network, most in ((PAIR, 9), (STAR, 6), (row(8), 3), (WITH_LONE, 6), (network_of("abcdefgh", "ab"), 9)):
            for steps in range(most + 1):
                self.check(network, chain(12), "a", LETTERS[steps], fewest(network, chain(12), "a", LETTERS[steps]))
            self.assertRaises(TooLarge, fewest_any, network, chain(12), "a", LETTERS[most + 1])

    def test_no_two_services_talk(self):
        for many in (1, 2, 12):
            network = (tuple(LETTERS[:many]), ())
            for catalog in (CHAIN, GAP):
                for start, end in itertools.product(("ra", "rc", "rd"), repeat=2):
                    self.check(network, catalog, start, end, 0 if start == end else many)
            self.check(network, chain(12), "a", "l", many)

    def test_start_is_end(self):
        for network in (PAIR, RING, WITH_LONE, ALONE, complete(9), two_sides(6, 6)):
            for catalog in (CHAIN, GAP):
                for name, _ in catalog:
                    self.check(network, catalog, name, name, 0)

    def test_no_release(self):
        for value in any_values() + ["rb", "c"]:
            for network in (PAIR, RING, ALONE, two_sides(6, 6)):
                check_refused(self, lambda: fewest_any(network, GAP, value, "ra"), NoRelease, value)
                check_refused(self, lambda: fewest_any(network, GAP, "ra", value), NoRelease, value)
                other = ["other"]
                check_refused(self, lambda: fewest_any(network, GAP, value, other), NoRelease, value)

    def test_unreachable(self):
        for network in (PAIR, RING, complete(9), two_sides(6, 6)):
            for start, end in (("ra", "rc"), ("ra", "rd"), ("rc", "ra"), ("rd", "ra")):
                self.check_unreachable(network, GAP, start, end)

    def test_too_large(self):
        cases = ((RING, chain(12), "l"), (complete(9), CHAIN, "rd"), (two_sides(6, 6), CHAIN, "rd"))
        for network, catalog, end in cases:
            start = catalog[0][0]
            with self.assertRaises(TooLarge) as caught:
                fewest_any(network, catalog, start, end)
            self.assertEqual(caught.exception.limit, 16)
            check_refused(self, lambda: fewest_any(network, catalog, "z", end), NoRelease, "z")


class Search(unittest.TestCase):
    def check(self, network, catalog, state, goal):
        many = slow.least_steps_from(network, catalog, state).get(goal)
        found = search(network, catalog, state, goal)
        if many is None:
            self.assertIsNone(found)
            return
        self.assertIs(type(found), tuple)
        self.assertEqual(len(found), many)
        self.assertTrue(slow.has_form_of_schedule(network, catalog, found))
        states = slow.steps_of(network, catalog, state, found)
        self.assertEqual([len(states), states[-1]], [many + 1, goal])

    def check_all(self, network, catalog, apart=1):
        states = slow.valid_states(network, catalog)
        for state, goal in list(itertools.product(states, repeat=2))[::apart]:
            self.check(network, catalog, state, goal)

    def test_all_pairs_of_states(self):
        self.check_all(PAIR, CHAIN)
        self.check_all(PAIR, GAP)
        self.check_all(STAR, CHAIN[:3], 3)
        self.check_all(RING, CHAIN[:3], 2)
        self.check_all(ALONE, GAP)
        self.check_all((("a",), ()), CHAIN)
        self.check_all(network_of("abc", "ac"), GAP[:2])

    def test_some_pairs_of_states(self):
        self.check_all(STAR, CHAIN, 211)
        self.check_all(RING, TWO_WAYS, 97)
        self.check_all(WITH_LONE, GAP, 97)

    def test_four_services_and_five_releases(self):
        for network in (row(4), ring(4), complete(4), two_sides(1, 3), WITH_LONE, (tuple("abcd"), ())):
            for state, goal in (("a", "e"), ("b", "d"), ("e", "b"), ("c", "c")):
                self.check(network, chain(5), (state,) * 4, (goal,) * 4)
        self.check(WITH_LONE, chain(5), ("a", "e", "b", "a"), ("e", "a", "d", "e"))
        self.check(row(4), chain(5), ("a", "b", "c", "d"), ("d", "c", "b", "a"))

    def test_lone_services_run_what_cannot_be_reached(self):
        self.check(WITH_LONE, GAP, ("ra", "rc", "ra", "ra"), ("ra", "rd", "ra", "ra"))
        self.assertEqual(search(WITH_LONE, GAP, ("ra",) * 4, ("ra", "rd", "ra", "ra")), (("b", "rd"),))
        self.assertIsNone(search(WITH_LONE, GAP, ("ra",) * 4, ("rc", "ra", "rc", "rc")))

    def test_there_is_none(self):
        for network in (PAIR, RING):
            many = len(network[0])
            self.assertIsNone(search(network, GAP, ("ra",) * many, ("rc",) * many))
            self.assertIsNone(search(network, GAP, ("rd",) * many, ("ra",) * many))
        # All neighbours would have to move at once.
        crossed = catalog_of(("ra", "rb", "rc", "rd"), [("ra", "rb"), ("rc", "rd")])
        self.assertIsNone(search(PAIR, crossed, ("ra", "rb"), ("rd", "rc")))

    def test_from_a_state_to_itself(self):
        for network, catalog in ((PAIR, CHAIN), (RING, TWO_WAYS), (ALONE, GAP)):
            for state in slow.valid_states(network, catalog):
                self.assertEqual(search(network, catalog, state, state), ())

    def test_between_states_of_one_release_beside_fewest_any(self):
        for network in all_networks("abcd"):
            for catalog in (CHAIN, chain(5)):
                names = [name for name, _ in catalog]
                for end in names[1:]:
                    if len(slow.all_nodes(network, len(names))) <= 16:
                        many = fewest_any(network, catalog, names[0], end)
                        self.assertEqual(len(search(network, catalog, (names[0],) * 4, (end,) * 4)), many)


class SearchRefusals(unittest.TestCase):
    def too_large(self, limit, *given):
        with self.assertRaises(TooLarge) as caught:
            search(*given)
        self.assertEqual(caught.exception.limit, limit)

    def test_too_many_services_then_releases(self):
        for many in (5, 6, 12):
            network = (tuple(LETTERS[:many]), ())
            for catalog in (CHAIN, chain(5), chain(6), chain(12)):
                self.too_large(4, network, catalog, ("a",) * many, ("b",) * many)
        for network in (PAIR, WITH_LONE, RING):
            for many in (6, 7, 12):
                self.too_large(5, network, chain(many), ("a",) * len(network[0]), ("b",) * len(network[0]))
            self.assertEqual(search(network, chain(5), ("a",) * len(network[0]), ("a",) * len(network[0])), ())
        self.assertEqual(search((tuple("abcd"), ()), chain(5), tuple("eeee"), tuple("eeee")), ())

    def test_too_large_comes_before_bad_state(self):
        for value in any_values():
            self.too_large(4, row(5), chain(6), value, value)
            self.too_large(5, PAIR, chain(6), value, value)
            self.too_large(5, PAIR, chain(6), ("a", "a"), value)

    def test_any_value(self):
        right = ("ra", "rb")
        for value in any_values():
            check_refused(self, lambda: search(PAIR, CHAIN, value, right), BadState, value)
            check_refused(self, lambda: search(PAIR, CHAIN, right, value), BadState, value)
            other = ["other"]
            check_refused(self, lambda: search(PAIR, CHAIN, value, other), BadState, value)
            for given in ((value,), ("ra", value), (value, "ra"), ("ra", "ra", value)):
                check_refused(self, lambda: search(PAIR, CHAIN, given, right), BadState, given)
                check_refused(self, lambda: search(PAIR, CHAIN, right, given), BadState, given)

    def test_variants(self):
        known = {repr(state) for state in slow.valid_states(PAIR, CHAIN)}
        for value in variants(("rb", "rc")):
            if repr(value) in known:
                before = copy.deepcopy(value)
                self.assertIsNotNone(search(PAIR, CHAIN, value, ("ra", "ra")))
                self.assertEqual(value, before)
            else:
                check_refused(self, lambda: search(PAIR, CHAIN, value, ("ra", "ra")), BadState, value)
                check_refused(self, lambda: search(PAIR, CHAIN, ("ra", "ra"), value), BadState, value)

    def test_states_that_are_not_valid(self):
        for value in (("ra", "rc"), ("rd", "rb"), ("ra", "re"), ("ra",), ("ra", "ra", "ra")):
            check_refused(self, lambda: search(PAIR, CHAIN, value, ("ra", "rd")), BadState, value)
            check_refused(self, lambda: search(PAIR, CHAIN, ("ra", "ra"), value), BadState, value)


class Calls(unittest.TestCase):
    def test_arguments_by_name_in_another_sequence(self):
        self.assertEqual(greatest_any(distance=4, network=STAR), greatest_any(STAR, 4))
        self.assertEqual(fewest_any(end="rd", start="ra", catalog=CHAIN, network=RING),
                         fewest_any(RING, CHAIN, "ra", "rd"))
        found = search(goal=("rc", "rc"), state=("ra", "rb"), catalog=CHAIN, network=PAIR)
        self.assertEqual(found, search(PAIR, CHAIN, ("ra", "rb"), ("rc", "rc")))
        first, second = ["first"], ["second"]
        check_refused(self, lambda: fewest_any(end=second, start=first, catalog=CHAIN, network=RING), NoRelease, first)
        check_refused(self, lambda: search(goal=second, state=first, catalog=CHAIN, network=RING), BadState, first)

    def test_arguments_are_not_changed_and_results_are_equal(self):
        given = (RING, CHAIN, ("ra", "ra", "rb"), ("rd", "rd", "rc"))
        same = copy.deepcopy(given)
        self.assertEqual(search(*given), search(*same))
        self.assertEqual(fewest_any(*given[:2], "ra", "rd"), fewest_any(*same[:2], "ra", "rd"))
        self.assertEqual(greatest_any(RING, 4), greatest_any(same[0], 4))
        self.assertEqual(repr(given), repr(same))


if __name__ == "__main__":
    unittest.main()
