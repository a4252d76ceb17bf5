"""Section 13, and guarantee (e) of section 4."""

import copy
import itertools
import unittest

from gridupgrade.errors import NoRelease, NotTwoSided, NotWave, Unreachable
from gridupgrade.networks import odd_cycle, shows_odd_cycle
from gridupgrade.upgrades import fewest, upgrade
from gridupgrade.waves import after_wave, is_wave, shows_waves, waves
from tests import search
from tests.values import (
    ALONE, CHAIN, GAP, LETTERS, PAIR, RING, STAR, TWO_WAYS, WITH_LONE, all_graphs, all_networks, any_values, catalog_of,
    chain, check_any_value, check_refused, network_of, ring, row, two_sides, variants,
)

# All of these are compatible with rb, but not with each other.
SPREAD = catalog_of(("ra", "rb", "rc"), [("ra", "rb"), ("rb", "rc")])


class Examples(unittest.TestCase):
    def test_examples(self):
        self.assertIs(is_wave(PAIR, CHAIN, ("ra", "ra"), (("c", "rb"), ("s", "rb"))), True)
        self.assertIs(is_wave(PAIR, CHAIN, ("ra", "rb"), (("c", "rb"), ("s", "rc"))), False)
        self.assertEqual(waves(PAIR, CHAIN, "ra", "rb"), ((("c", "rb"), ("s", "rb")),))
        self.assertEqual(after_wave(PAIR, CHAIN, ("ra", "ra"), (("s", "rb"),)), ("ra", "rb"))
        self.assertIs(shows_waves(STAR, CHAIN, "ra", "rd", waves(STAR, CHAIN, "ra", "rd")), True)


class Checks(unittest.TestCase):
    def check(self, network, catalog, state, value):
        """Check is_wave and after_wave; return whether the value is a wave."""
        expected = search.is_wave(network, catalog, state, value)
        check_any_value(self, lambda given: is_wave(network, catalog, state, given), value, expected)
        if expected:
            after = state
            for replacement in value:
                after = search.state_after(network, after, replacement)
            self.assertEqual(after_wave(network, catalog, state, value), after)
            self.assertIs(type(after_wave(network, catalog, state, value)), tuple)
        else:
            check_refused(self, lambda: after_wave(network, catalog, state, value), NotWave, value)
        return expected


class Waves(Checks):
    def test_all_sets_of_replacements(self):
        for network, catalog in ((PAIR, CHAIN), (PAIR, SPREAD), (STAR, SPREAD), (RING, SPREAD), (ALONE, GAP[:2])):
            moves = search.all_replacements(network, catalog)
            for state in search.valid_states(network, catalog):
                for many in range(4):
                    for value in itertools.combinations(moves, many):
                        self.check(network, catalog, state, value)

    def test_all_short_tuples(self):
        for state in search.valid_states(PAIR, SPREAD):
            for many in range(4):
                for value in itertools.product(search.all_replacements(PAIR, SPREAD), repeat=many):
                    self.check(PAIR, SPREAD, state, value)

    def test_one_replacement(self):
        for state in search.valid_states(STAR, CHAIN):
            for replacement in search.all_replacements(STAR, CHAIN):
                # The old release runs on beside the new one, so one wave is less than one replacement.
                after = search.state_after(STAR, state, replacement)
                possible = not search.wrong_talks(STAR, CHAIN, after)
                self.assertIs(self.check(STAR, CHAIN, state, (replacement,)), possible)

    def test_services_that_talk_and_others(self):
        for value, expected in (
                ((("k", "rb"), ("m", "rb")), True),
                ((("k", "rc"), ("m", "rc")), True),
                ((("k", "rc"), ("m", "ra"), ("s", "rb")), True),
                ((("k", "rc"), ("s", "rc")), False),
                ((("k", "rb"), ("s", "rc")), False),
                ((("k", "rb"), ("m", "rb"), ("s", "rc")), False)):
            self.assertIs(self.check(STAR, CHAIN, ("ra", "ra", "rb"), value), expected)
        self.assertIs(self.check(ALONE, GAP, ("ra", "rc"), (("a", "rd"), ("b", "ra"))), True)

    def test_the_new_release_of_one_and_the_old_one_of_another(self):
        self.assertIs(self.check(PAIR, CHAIN, ("rb", "rb"), (("c", "ra"), ("s", "rc"))), False)
        self.assertIs(self.check(PAIR, CHAIN, ("rb", "rb"), (("c", "ra"), ("s", "ra"))), True)
        self.assertIs(self.check(PAIR, CHAIN, ("ra", "rb"), (("c", "rc"), ("s", "rb"))), True)
        self.assertIs(self.check(PAIR, CHAIN, ("ra", "rb"), (("c", "rb"), ("s", "ra"))), True)
        self.assertIs(self.check(PAIR, TWO_WAYS, ("ra", "rb"), (("c", "rd"), ("s", "rc"))), True)

    def test_the_old_releases_count_even_where_all_new_ones_fit(self):
        # rc fits rd, but while both are replaced the old ra meets it.
        self.assertIs(self.check(PAIR, CHAIN, ("ra", "rb"), (("c", "rd"), ("s", "rc"))), False)
        self.assertIs(self.check(PAIR, CHAIN, ("ra", "ra"), (("c", "rb"), ("s", "rc"))), False)

    def test_the_same_release(self):
        for network in (PAIR, STAR, RING, ALONE, WITH_LONE):
            for state in search.valid_states(network, SPREAD):
                pairs = tuple(zip(network[0], state))
                for many in range(1, len(pairs) + 1):
                    for value in itertools.combinations(pairs, many):
                        self.assertIs(self.check(network, SPREAD, state, value), True)
                        self.assertEqual(after_wave(network, SPREAD, state, value), state)

    def test_a_service_twice(self):
        for value in ((("c", "ra"), ("c", "rb")), (("c", "rb"), ("c", "rb")), (("c", "rb"), ("s", "ra"), ("s", "rb")),
                      (("c", "rb"), ("c", "ra"))):
            self.assertIs(self.check(PAIR, CHAIN, ("ra", "ra"), value), False)
        self.assertIs(self.check(ALONE, GAP, ("ra", "ra"), (("a", "ra"), ("a", "rc"))), False)

    def test_not_ascending(self):
        for value in itertools.permutations((("k", "rb"), ("m", "rb"), ("s", "ra"))):
            expected = list(value) == sorted(value)
            self.assertIs(self.check(STAR, CHAIN, ("ra", "ra", "ra"), value), expected)

    def test_services_and_releases_there_are_none_of(self):
        for replacement in (("t", "ra"), ("c", "re"), ("ra", "ra"), ("c", "c"), ("C", "ra"), ("", "ra"), ("c", ""),
                            ("c",), ("c", "ra", "ra"), ["c", "ra"], "cra", None):
            self.assertIs(self.check(PAIR, CHAIN, ("ra", "ra"), (replacement,)), False)
            self.assertIs(self.check(PAIR, CHAIN, ("ra", "ra"), (replacement, ("s", "ra"))), False)

    def test_any_value(self):
        for value in any_values():
            for network, state in ((PAIR, ("ra", "rb")), (ALONE, ("ra", "rd"))):
                for given in (value, (value,), (("c", value),), ((value, "ra"),), (("c", "ra"), value), (value, value)):
                    self.check(network, CHAIN, state, given)

    def test_variants(self):
        for value in variants((("c", "rb"), ("s", "rb"))):
            self.check(PAIR, CHAIN, ("ra", "ra"), value)
        for value in variants((("b", "rc"),)):
            self.check(ALONE, GAP, ("ra", "ra"), value)

    def test_great_networks(self):
        network = two_sides(6, 6)
        before, after = ("b",) * 12, ("b",) * 6 + ("c",) * 6
        value = tuple((service, "c") for service in network[0])
        self.check(network, chain(12), before, value)
        self.check(network, chain(12), after, value)
        self.check(network, chain(12), after, tuple((service, "d") for service in network[0][:6]))
        self.check(network, chain(12), after, value[:6] + ((network[0][6], "d"),))


class InAnyOrder(unittest.TestCase):
    def test_each_sequence_of_each_wave(self):
        for network, catalog in ((PAIR, CHAIN), (STAR, SPREAD), (RING, SPREAD), (ring(4), SPREAD)):
            moves = search.all_replacements(network, catalog)
            for state in search.valid_states(network, catalog):
                for many in (1, 2, 3):
                    for value in itertools.combinations(moves, many):
                        if is_wave(network, catalog, state, value):
                            self.check(network, catalog, state, value)

    def test_the_waves_of_the_package(self):
        for network in (row(5), ring(4), WITH_LONE, network_of("abcde", "ac", "ce")):
            state = ("a",) * len(network[0])
            for wave in waves(network, chain(6), "a", "f"):
                self.check(network, chain(6), state, wave)
                state = after_wave(network, chain(6), state, wave)

    def check(self, network, catalog, state, wave):
        after = after_wave(network, catalog, state, wave)
        for schedule in itertools.permutations(wave):
            states = search.steps_of(network, catalog, state, schedule)
            self.assertEqual([len(states), states[-1]], [len(wave) + 1, after])
            self.assertEqual(search.wrong_talks(network, catalog, after), [])


class WavesOfUpgrades(unittest.TestCase):
    def check(self, network, catalog, start, end, many):
        """Check the waves where an upgrade needs so many replacements."""
        found = waves(network, catalog, start, end)
        self.assertIs(type(found), tuple)
        self.assertEqual(sum(len(wave) for wave in found), many)
        self.assertTrue(search.shows_waves(network, catalog, start, end, found))
        self.assertIs(shows_waves(network, catalog, start, end, found), True)
        if start == end:
            self.assertEqual(found, ())
        elif not network[1]:
            self.assertEqual(found, (tuple((service, end) for service in network[0]),))
        else:
            self.assertLessEqual(len(found), 2 * search.distances(catalog, start)[end] - 1)
        one_by_one = tuple(replacement for wave in found for replacement in wave)
        self.assertTrue(search.is_upgrade(network, catalog, start, end, one_by_one))

    def check_by_search(self, network, catalog, start):
        least = search.least_steps(network, catalog, start)
        for end, _ in catalog:
            many = least.get((end,) * len(network[0]))
            if many is None:
                self.assertRaises(Unreachable, waves, network, catalog, start, end)
            else:
                self.check(network, catalog, start, end, many)

    def test_all_catalogs_of_four_releases(self):
        for pairs in all_graphs(("ra", "rb", "rc", "rd")):
            catalog = catalog_of(("ra", "rb", "rc", "rd"), pairs)
            for network in [*all_networks("abc"), *all_networks("ab"), *all_networks("a")]:
                if odd_cycle(network) is None:
                    for start in ("ra", "rc"):
                        self.check_by_search(network, catalog, start)

    def test_all_networks_of_four_services(self):
        for network in all_networks("abcd"):
            if odd_cycle(network) is None:
                self.check_by_search(network, CHAIN, "ra")
                self.check_by_search(network, TWO_WAYS, "rd")

    def test_great_networks(self):
        for network in (two_sides(6, 6), two_sides(1, 11), row(12), ring(12), row(11), ring(8),
                        network_of(LETTERS[:12], "be", "eh", "fk")):
            for start, end in (("a", "l"), ("l", "a"), ("a", "k"), ("c", "b"), ("f", "c"), ("e", "e")):
                self.check(network, chain(12), start, end, fewest(network, chain(12), start, end))

    def test_one_step_is_one_wave(self):
        for network in (PAIR, STAR, WITH_LONE, two_sides(6, 6)):
            for start, end in (("rb", "rc"), ("rb", "ra")):
                self.assertEqual(waves(network, CHAIN, start, end), (tuple((name, end) for name in network[0]),))

    def test_no_two_services_talk(self):
        for many in (1, 2, 12):
            network = (tuple(LETTERS[:many]), ())
            for start, end in itertools.product(("ra", "rc", "rd"), repeat=2):
                for catalog in (CHAIN, GAP):
                    self.check(network, catalog, start, end, 0 if start == end else many)

    def test_start_is_end(self):
        for network in (PAIR, STAR, WITH_LONE, ALONE, two_sides(6, 6)):
            for catalog in (CHAIN, GAP):
                for name, _ in catalog:
                    self.check(network, catalog, name, name, 0)


class Refusals(unittest.TestCase):
    def test_no_release(self):
        for value in any_values() + ["rb", "c"]:
            for network in (PAIR, RING, ALONE):
                check_refused(self, lambda: waves(network, GAP, value, "ra"), NoRelease, value)
                check_refused(self, lambda: waves(network, GAP, "ra", value), NoRelease, value)
                other = ["other"]
                check_refused(self, lambda: waves(network, GAP, value, other), NoRelease, value)

    def test_not_two_sided_comes_before_unreachable(self):
        with_ring = network_of("abcdefg", "bd", "bf", "df", "ac", "ce")
        for network in (RING, ring(5), with_ring):
            for start, end in itertools.product(("ra", "rc", "rd"), repeat=2):
                for catalog in (GAP, CHAIN):
                    with self.assertRaises(NotTwoSided) as caught:
                        waves(network, catalog, start, end)
                    self.assertIs(shows_odd_cycle(network, caught.exception.cycle), True)

    def test_no_release_comes_before_not_two_sided(self):
        check_refused(self, lambda: waves(RING, GAP, "ra", "rb"), NoRelease, "rb")
        check_refused(self, lambda: waves(RING, GAP, "rb", "rb"), NoRelease, "rb")

    def test_unreachable(self):
        for network in (PAIR, STAR, WITH_LONE, two_sides(6, 6)):
            for start, end in (("ra", "rc"), ("ra", "rd"), ("rc", "ra"), ("rd", "ra")):
                with self.assertRaises(Unreachable) as caught:
                    waves(network, GAP, start, end)
                self.assertEqual(caught.exception.names, tuple(sorted(search.distances(GAP, start))))


class ShowsWaves(unittest.TestCase):
    def check(self, network, catalog, start, end, value):
        expected = search.shows_waves(network, catalog, start, end, value)
        check_any_value(self, lambda given: shows_waves(network, catalog, start, end, given), value, expected)
        return expected

    def test_one_wave_fewer_one_more_one_twice(self):
        for network, catalog, start, end in ((STAR, CHAIN, "ra", "rd"), (WITH_LONE, CHAIN, "rd", "ra"),
                                             (PAIR, CHAIN, "ra", "rc"), (ALONE, GAP, "ra", "rc"),
                                             (two_sides(3, 4), chain(12), "a", "l")):
            found = waves(network, catalog, start, end)
            self.assertIs(self.check(network, catalog, start, end, found), True)
            for at, wave in enumerate(found):
                before, after = found[:at], found[at + 1:]
                self.check(network, catalog, start, end, before + after)
                self.check(network, catalog, start, end, before + (wave, wave) + after)
                self.check(network, catalog, start, end, before + ((),) + found[at:])
                self.check(network, catalog, start, end, before + (wave[1:],) + after)
                self.check(network, catalog, start, end, before + (wave + wave[:1],) + after)
                self.check(network, catalog, start, end, before + (wave[::-1],) + after)
                for replacement in wave:
                    self.check(network, catalog, start, end, before + ((replacement,),) + found[at:])
                self.assertIs(shows_waves(network, catalog, start, end, found[:at]), False)

    def test_detours(self):
        there = ((("c", "rb"), ("s", "rb")),)
        back = ((("c", "ra"),), (("s", "ra"),))
        self.assertIs(self.check(PAIR, CHAIN, "ra", "rb", there + back + there), True)
        self.assertIs(self.check(PAIR, CHAIN, "ra", "ra", there + back), True)
        self.assertIs(self.check(PAIR, CHAIN, "ra", "ra", there + back[:1]), False)
        self.assertIs(self.check(PAIR, CHAIN, "ra", "rb", ((("c", "ra"),),) * 9 + there), True)
        self.assertIs(self.check(PAIR, CHAIN, "ra", "rb", (there + back) * 60 + there), True)
        self.assertIs(self.check(ALONE, GAP, "ra", "rc", ((("a", "rd"),), (("a", "rc"), ("b", "rc")))), True)

    def test_more_than_400_replacements(self):
        there, back = (("c", "rb"), ("s", "rb")), (("c", "ra"), ("s", "ra"))
        for turns in (100, 101, 150):
            self.assertIs(shows_waves(PAIR, CHAIN, "ra", "ra", (there, back) * turns), True)
            self.assertIs(shows_waves(PAIR, CHAIN, "ra", "rb", (there, back) * turns + (there,)), True)
            self.assertIs(shows_waves(PAIR, CHAIN, "ra", "rb", (there, back) * turns), False)

    def test_no_wave(self):
        for network in (PAIR, RING, ALONE):
            for start, end in itertools.product(("ra", "rb", "rd"), repeat=2):
                self.assertIs(self.check(network, CHAIN, start, end, ()), start == end)
                self.assertIs(self.check(network, CHAIN, start, end, ((),)), False)

    def test_single_replacements_are_waves_as_well(self):
        for network, end in ((PAIR, "rd"), (STAR, "rc"), (WITH_LONE, "rb")):
            single = tuple((replacement,) for replacement in upgrade(network, CHAIN, "ra", end))
            self.assertIs(self.check(network, CHAIN, "ra", end, single), True)

    def test_networks_with_an_odd_cycle(self):
        together = ((("x", "rb"), ("y", "rb"), ("z", "rb")),)
        self.assertIs(self.check(RING, CHAIN, "ra", "rb", together), True)
        self.assertIs(self.check(RING, CHAIN, "ra", "rc", together), False)
        self.assertIs(self.check(RING, CHAIN, "ra", "rc", together + ((("x", "rc"), ("y", "rc"), ("z", "rc")),)), True)

    def test_releases_that_cannot_be_reached(self):
        for network in (PAIR, RING):
            direct = (tuple((name, "rc") for name in network[0]),)
            self.assertIs(self.check(network, GAP, "ra", "rc", direct), False)
            self.assertIs(self.check(network, GAP, "ra", "rc", ()), False)

    def test_all_short_tuples_of_waves(self):
        every = [value for many in (1, 2) for value in
                 itertools.combinations(search.all_replacements(PAIR, SPREAD), many)]
        for many in range(3):
            for value in itertools.product(every, repeat=many):
                for end in ("ra", "rb", "rc"):
                    expected = search.shows_waves(PAIR, SPREAD, "ra", end, value)
                    self.assertIs(shows_waves(PAIR, SPREAD, "ra", end, value), expected)

    def test_any_value(self):
        found = waves(PAIR, CHAIN, "ra", "rc")
        for value in any_values():
            for given in (value, (value,), ((value,),), found + (value,), (value,) + found, found[:1] + (value,)):
                self.check(PAIR, CHAIN, "ra", "rc", given)
                self.check(ALONE, CHAIN, "rb", "rb", given)
                self.check(RING, CHAIN, "ra", "rb", given)

    def test_variants(self):
        for network, catalog, end in ((PAIR, CHAIN, "rc"), (ALONE, GAP, "rd"), (network_of("abc", "ac"), CHAIN, "rb")):
            for value in variants(waves(network, catalog, "ra", end)):
                self.check(network, catalog, "ra", end, value)


class Calls(unittest.TestCase):
    def test_arguments_by_name_in_another_sequence(self):
        state, wave = ("ra", "rb"), (("c", "rc"),)
        self.assertIs(is_wave(value=wave, state=state, catalog=CHAIN, network=PAIR), True)
        self.assertEqual(after_wave(wave=wave, state=state, catalog=CHAIN, network=PAIR), ("rc", "rb"))
        found = waves(end="rd", start="ra", catalog=CHAIN, network=STAR)
        self.assertEqual(found, waves(STAR, CHAIN, "ra", "rd"))
        self.assertIs(shows_waves(value=found, end="rd", start="ra", catalog=CHAIN, network=STAR), True)
        self.assertIs(shows_waves(value=found, end="ra", start="rd", catalog=CHAIN, network=STAR), False)
        first, second = ["first"], ["second"]
        check_refused(self, lambda: waves(end=second, start=first, catalog=CHAIN, network=RING), NoRelease, first)

    def test_arguments_are_not_changed_and_results_are_equal(self):
        given = (two_sides(3, 4), chain(8), "b", "g")
        same = copy.deepcopy(given)
        found = waves(*given)
        self.assertEqual(found, waves(*same))
        self.assertIs(shows_waves(*given, found), True)
        self.assertIs(shows_waves(*given, found), True)
        state = ("b",) * 7
        self.assertEqual(after_wave(*given[:2], state, found[0]), after_wave(*same[:2], state, found[0]))
        self.assertEqual([repr(given), repr(found)], [repr(same), repr(waves(*same))])

    def test_somewhat_beyond_the_limits(self):
        names = tuple("service" + letter * 3 for letter in LETTERS)
        network, catalog = (names, tuple(zip(names, names[1:]))), chain(14)
        found = waves(network, catalog, "a", "n")
        self.assertEqual(sum(len(wave) for wave in found), 14 + 7 * 12)
        self.assertLessEqual(len(found), 25)
        self.assertIs(shows_waves(network, catalog, "a", "n", found), True)


if __name__ == "__main__":
    unittest.main()
