"""Definitions 3.3 and 3.10, and section 6."""

import copy
import itertools
import unittest

from gridupgrade.errors import NoService, NotTwoSided, TooLarge
from gridupgrade.networks import is_network, lone, neighbours, odd_cycle, parts, shows_odd_cycle, sides, together
from tests.values import (
    LETTERS, PAIR, RING, STAR, all_networks, any_values, check_any_value, check_refused, network_of, ring,
)

ALL_PAIRS = tuple(itertools.combinations(LETTERS[:12], 2))


def talk(network, one, other):
    """Return whether two services talk."""
    return tuple(sorted((one, other))) in network[1]


def merged_parts(network):
    """Return the parts, by merging sets of services talk by talk."""
    groups = {service: {service} for service in network[0]}
    for one, other in network[1]:
        both = groups[one] | groups[other]
        for service in both:
            groups[service] = both
    return tuple(sorted({tuple(sorted(group)) for group in groups.values()}))


def all_sides(network):
    """Return each division into two sides of services that do not talk, by trying all."""
    found = []
    for marks in itertools.product((0, 1), repeat=len(network[0])):
        side = dict(zip(network[0], marks))
        if all(side[one] != side[other] for one, other in network[1]):
            found.append(tuple(tuple(name for name in network[0] if side[name] == mark) for mark in (0, 1)))
    return found


def is_odd_cycle(network, value):
    """Return whether a tuple of services is an odd cycle, word by word as definition 10 says."""
    if len(value) < 3 or len(value) % 2 == 0 or len(set(value)) < len(value):
        return False
    return all(talk(network, value[at - 1], value[at]) for at in range(len(value)))


class IsNetwork(unittest.TestCase):
    def test_networks(self):
        for value in (PAIR, STAR, RING, (("a",), ()), (("a", "b"), ()), (("abcdefgh", "b"), (("abcdefgh", "b"),))):
            check_any_value(self, is_network, value, True)

    def test_number_of_services(self):
        for many in range(15):
            check_any_value(self, is_network, (tuple(LETTERS[:many]), ()), 1 <= many <= 12)

    def test_number_of_talks(self):
        for many in (0, 1, 39, 40, 41, 42, 66):
            check_any_value(self, is_network, (tuple(LETTERS[:12]), ALL_PAIRS[:many]), many <= 40)

    def test_services_must_be_ascending_names(self):
        for services in (("b", "a"), ("a", "a"), ("a", "c", "b"), ("a", "b", "b")):
            check_any_value(self, is_network, (services, ()), False)
        for service in ("", "abcdefghi", "A", "a1", "\u00e9"):
            check_any_value(self, is_network, ((service,), ()), False)

    def test_talks_must_be_ascending(self):
        services, talks = RING
        for order in itertools.permutations(talks):
            check_any_value(self, is_network, (services, order), order == talks)
        check_any_value(self, is_network, (services, talks[:1] * 2), False)
        check_any_value(self, is_network, (services, talks + talks[2:]), False)

    def test_talks_of_two_different_services_the_lesser_one_first(self):
        for one, other in itertools.product(("a", "b", "c", "d"), repeat=2):
            fits = (one, other) in (("a", "b"), ("a", "d"), ("b", "d"))
            check_any_value(self, is_network, (("a", "b", "d"), ((one, other),)), fits)

    def test_wrong_forms(self):
        wrong = [
            list(PAIR), (["c", "s"], PAIR[1]), (PAIR[0], [("c", "s")]), (PAIR[0], (["c", "s"],)), (PAIR[0], ("c", "s")),
            (PAIR[0], ("cs",)), (PAIR[0], (("c",),)), (PAIR[0], (("c", "s", "s"),)), PAIR + ((),), PAIR[:1],
            (PAIR[1], PAIR[0]), ("cs", ()), (PAIR[0], ""), (PAIR[0], {}), (PAIR[0], None), ({"c": 1, "s": 2}, ()),
            ((), ()), ((), (("c", "s"),)), {"c": "s"},
        ]
        for value in wrong:
            check_any_value(self, is_network, value, False)

    def test_any_value_in_each_place(self):
        for value in any_values():
            check_any_value(self, is_network, value, False)
            fits = isinstance(value, tuple) and value in (("ra",), ("c",), ("c", "s"))
            check_any_value(self, is_network, (value, ()), fits)
            check_any_value(self, is_network, (PAIR[0], value), value == () and isinstance(value, tuple))
            check_any_value(self, is_network, ((value,), ()), False)
            check_any_value(self, is_network, (("c", value), ()), False)
            check_any_value(self, is_network, (PAIR[0], (value,)), isinstance(value, tuple) and value == ("c", "s"))
            check_any_value(self, is_network, (PAIR[0], PAIR[1] + (value,)), False)
            check_any_value(self, is_network, (PAIR[0], ((value, "s"),)), False)
            check_any_value(self, is_network, (PAIR[0], (("c", value),)), False)


class Examples(unittest.TestCase):
    def test_examples(self):
        self.assertEqual(neighbours(STAR, "s"), ("k", "m"))
        self.assertEqual(sides(STAR), (("k", "m"), ("s",)))
        self.assertIsNone(odd_cycle(STAR))
        self.assertIs(shows_odd_cycle(RING, ("x", "y", "z")), True)
        self.assertIs(shows_odd_cycle(RING, odd_cycle(RING)), True)
        self.assertEqual(together(PAIR, STAR), (("c", "k", "m", "s"), (("c", "s"), ("k", "s"), ("m", "s"))))
        self.assertEqual(lone((("a", "b"), ())), ("a", "b"))
        self.assertEqual(parts((("a", "b", "c"), (("a", "c"),))), (("a", "c"), ("b",)))


class Neighbours(unittest.TestCase):
    def test_no_service(self):
        for value in any_values() + ["a", "t", "km", "ks"]:
            check_refused(self, lambda: neighbours(STAR, value), NoService, value)

    def test_a_lone_service_has_none(self):
        self.assertEqual(neighbours((("a", "b", "c"), (("a", "c"),)), "b"), ())
        self.assertEqual(neighbours((("a",), ()), "a"), ())

    def test_talks_of_both_directions(self):
        network = network_of("abcde", "ca", "cb", "cd", "ce", "ab")
        self.assertEqual(neighbours(network, "c"), ("a", "b", "d", "e"))
        self.assertEqual(neighbours(network, "a"), ("b", "c"))
        self.assertEqual(neighbours(network, "e"), ("c",))


class AllSmallNetworks(unittest.TestCase):
    def check(self, network):
        self.assertIs(is_network(network), True)
        around = {name: tuple(other for other in network[0] if talk(network, name, other)) for name in network[0]}
        for service in network[0]:
            self.assertEqual(neighbours(network, service), around[service])
        self.assertEqual(lone(network), tuple(name for name in network[0] if not around[name]))
        self.assertEqual(parts(network), merged_parts(network))
        divisions = all_sides(network)
        cycle = odd_cycle(network)
        self.assertEqual(cycle is None, bool(divisions))
        if divisions:
            fitting = [both for both in divisions if all(part[0] in both[0] for part in merged_parts(network))]
            self.assertEqual([sides(network)], fitting)
        else:
            self.check_cycle(network, cycle)

    def check_cycle(self, network, cycle):
        self.assertIs(type(cycle), tuple)
        self.assertTrue(is_odd_cycle(network, cycle))
        self.assertIs(shows_odd_cycle(network, cycle), True)
        with self.assertRaises(NotTwoSided) as caught:
            sides(network)
        self.assertTrue(is_odd_cycle(network, caught.exception.cycle))

    def test_up_to_five_services(self):
        for services in ("a", "ab", "abc", "abcd", "abcde"):
            for network in all_networks(services):
                self.check(network)

    def test_some_with_six_services(self):
        for network in list(all_networks("abcdef"))[::41]:
            self.check(network)

    def test_names_that_do_not_follow_the_talks(self):
        for order in itertools.permutations("abcde"):
            ways = zip(order, order[1:])
            self.check(network_of("abcdef", *ways))
            self.check(network_of("abcdef", *zip(order, order[1:] + order[:1])))


class Sides(unittest.TestCase):
    def test_without_talks(self):
        for many in (1, 2, 12):
            network = (tuple(LETTERS[:many]), ())
            self.assertEqual(sides(network), (network[0], ()))
            self.assertEqual(lone(network), network[0])
            self.assertEqual(parts(network), tuple((name,) for name in network[0]))
            self.assertIsNone(odd_cycle(network))

    def test_the_least_service_of_each_part_is_in_the_first_one(self):
        network = network_of("abcdefg", "bf", "fa", "cg", "gd")
        self.assertEqual(sides(network), (("a", "b", "c", "d", "e"), ("f", "g")))
        self.assertEqual(parts(network), (("a", "b", "f"), ("c", "d", "g"), ("e",)))
        self.assertEqual(lone(network), ("e",))

    def test_rings(self):
        for many in range(3, 13):
            network = ring(many)
            self.assertEqual(parts(network), (network[0],))
            if many % 2 == 0:
                self.assertIsNone(odd_cycle(network))
                self.assertEqual(sides(network), (network[0][::2], network[0][1::2]))
            else:
                self.assertEqual(sorted(odd_cycle(network)), list(network[0]))
                self.assertIs(shows_odd_cycle(network, odd_cycle(network)), True)
                with self.assertRaises(NotTwoSided) as caught:
                    sides(network)
                self.assertTrue(is_odd_cycle(network, caught.exception.cycle))

    def test_an_odd_cycle_in_a_later_part(self):
        network = network_of("abcdefgh", "ab", "bc", "de", "ef", "fg", "gh", "hd")
        self.assertEqual(sorted(odd_cycle(network)), list("defgh"))
        self.assertIs(shows_odd_cycle(network, odd_cycle(network)), True)
        with self.assertRaises(NotTwoSided) as caught:
            sides(network)
        self.assertEqual(sorted(caught.exception.cycle), list("defgh"))

    def test_an_odd_cycle_far_from_the_least_service(self):
        network = network_of("abcdefgh", "ab", "bc", "cd", "de", "ef", "fg", "gh", "fh")
        self.assertEqual(sorted(odd_cycle(network)), list("fgh"))

    def test_everyone_talks_to_everyone(self):
        for many in range(3, 10):
            network = network_of(LETTERS[:many], *itertools.combinations(LETTERS[:many], 2))
            self.assertTrue(is_odd_cycle(network, odd_cycle(network)))


class ShowsOddCycle(unittest.TestCase):
    def test_all_tuples_of_services(self):
        networks = [RING, STAR, PAIR, ring(5), ring(4), network_of("abcd", "ab", "bc", "ca", "cd"), network_of("abc")]
        networks.append(network_of("abcde", "ab", "bc", "ca", "cd", "de", "ec"))
        for network in networks:
            for many in range(6):
                for value in itertools.product(network[0], repeat=many):
                    self.assertIs(shows_odd_cycle(network, value), is_odd_cycle(network, value))

    def test_any_turn_and_direction(self):
        for many in (3, 5, 7, 11):
            names = tuple(LETTERS[:many])
            for at in range(many):
                turned = names[at:] + names[:at]
                for value in (turned, turned[::-1]):
                    check_any_value(self, lambda shown: shows_odd_cycle(ring(many), shown), value, True)

    def test_even_rings_are_none(self):
        for many in (4, 6, 12):
            self.assertIs(shows_odd_cycle(ring(many), tuple(LETTERS[:many])), False)

    def test_twice_the_same_services(self):
        both = network_of("abcdef", "ab", "bc", "ca", "cd", "de", "ec")
        self.assertIs(shows_odd_cycle(both, tuple("abcdec")), False)
        self.assertIs(shows_odd_cycle(both, tuple("abcabcabc")), False)
        self.assertIs(shows_odd_cycle(PAIR, ("c", "s", "c")), False)
        self.assertIs(shows_odd_cycle(PAIR, ("c",)), False)

    def test_wrong_forms(self):
        wrong = [
            "xyz", ["x", "y", "z"], (("x", "y", "z"),), ("x", "y"), ("x", "y", "z", "x"), ("x", "y", "a"), {"x": 1},
            ("x", "y", ["z"]), (["x"], ["y"], ["z"]), ("X", "y", "z"), RING[1], ({}, "y", "z"), (),
        ]
        for value in wrong:
            check_any_value(self, lambda shown: shows_odd_cycle(RING, shown), value, False)

    def test_any_value(self):
        for value in any_values():
            for network in (RING, PAIR, (("c",), ())):
                check_any_value(self, lambda shown: shows_odd_cycle(network, shown), value, False)
                for at in range(3):
                    shown = ("x", "y", "z")[:at] + (value,) + ("x", "y", "z")[at + 1:]
                    check_any_value(self, lambda given: shows_odd_cycle(network, given), shown, False)
                check_any_value(self, lambda shown: shows_odd_cycle(network, shown), (value, value, value), False)


class Together(unittest.TestCase):
    def check_too_large(self, limit, *networks):
        with self.assertRaises(TooLarge) as caught:
            together(*networks)
        self.assertEqual(caught.exception.limit, limit)

    def test_one_network(self):
        for network in (PAIR, STAR, RING, (("a",), ()), ring(12)):
            self.assertEqual(together(network), network)
            self.assertEqual(together(network, network), network)

    def test_several_networks(self):
        self.assertEqual(together(RING, (("a",), ()), PAIR), network_of("acsxyz", "cs", "xy", "xz", "yz"))
        self.assertEqual(together(PAIR, RING), together(RING, PAIR))
        self.assertEqual(together((("c", "s"), ()), PAIR), PAIR)
        self.assertEqual(together(network_of("ab", "ab"), network_of("bc", "bc"), network_of("ac", "ac")),
                         network_of("abc", "ab", "bc", "ac"))

    def test_all_pairs_of_small_networks(self):
        for one, other in itertools.product(list(all_networks("abc")), list(all_networks("bcd"))):
            both = together(one, other)
            self.assertIs(is_network(both), True)
            self.assertEqual(both, (tuple("abcd"), tuple(sorted(set(one[1] + other[1])))))

    def test_twelve_services(self):
        first, second = network_of("abcdef"), network_of("fghijkl", "fg")
        self.assertEqual(together(first, second), network_of("abcdefghijkl", "fg"))
        self.check_too_large(12, first, network_of("ghijklm"))
        self.check_too_large(12, first, second, (("m",), ()))

    def test_forty_talks(self):
        services = tuple(LETTERS[:12])
        first, second = (services, ALL_PAIRS[:25]), (services, ALL_PAIRS[20:40])
        self.assertEqual(together(first, second), (services, ALL_PAIRS[:40]))
        self.check_too_large(40, first, (services, ALL_PAIRS[20:41]))
        self.check_too_large(40, first, second, (("k", "l"), (("k", "l"),)))

    def test_services_come_before_talks(self):
        services = tuple(LETTERS[:12])
        self.check_too_large(12, (services, ALL_PAIRS[:25]), (services, ALL_PAIRS[25:50]), (("m",), ()))
        self.check_too_large(12, (("m",), ()), (services, ALL_PAIRS[:25]), (services, ALL_PAIRS[25:50]))


class Calls(unittest.TestCase):
    def test_arguments_by_name_in_another_sequence(self):
        self.assertIs(is_network(value=PAIR), True)
        self.assertEqual(neighbours(service="k", network=STAR), ("s",))
        self.assertEqual(lone(network=STAR), ())
        self.assertEqual(parts(network=STAR), (("k", "m", "s"),))
        self.assertIsNone(odd_cycle(network=STAR))
        self.assertIs(shows_odd_cycle(value=("y", "x", "z"), network=RING), True)
        self.assertEqual(sides(network=PAIR), (("c",), ("s",)))
        value = ["c"]
        check_refused(self, lambda: neighbours(service=value, network=PAIR), NoService, value)

    def test_arguments_are_not_changed_and_results_are_equal(self):
        for network in (PAIR, STAR, RING, ring(7), ring(8)):
            before = copy.deepcopy(network)
            for function in (lone, parts, odd_cycle, together):
                self.assertEqual(function(network), function(before))
            self.assertEqual(repr(network), repr(before))

    def test_somewhat_beyond_the_limits(self):
        names = tuple("service" + letter * 3 for letter in LETTERS)
        wide = names, tuple(zip(names, names[1:]))
        self.assertEqual(neighbours(wide, names[5]), (names[4], names[6]))
        self.assertEqual(sides(wide), (names[::2], names[1::2]))
        self.assertEqual(parts(wide), (names,))
        full = network_of(LETTERS, *itertools.combinations(LETTERS, 2))
        self.assertTrue(is_odd_cycle(full, odd_cycle(full)))
        self.assertIs(shows_odd_cycle(full, tuple(LETTERS[:13])), True)


if __name__ == "__main__":
    unittest.main()
