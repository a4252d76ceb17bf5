"""Definitions 3.4 and 3.5, and section 7."""

import copy
import itertools
import unittest

from gridupgrade.errors import BadSchedule, NoRelease, NoService, NotPossible
from gridupgrade.states import blockers, conflicts, is_state, is_valid, run, walk
from tests import search
from tests.values import (
    ALONE, CHAIN, LETTERS, PAIR, RING, STAR, WITH_LONE, all_networks, any_values, catalog_of, chain, check_any_value,
    check_refused, network_of, variants,
)

APART = catalog_of(("ra", "rb", "rc"), [("ra", "rb")])
TWINS = (("ra", (1, 3)), ("rb", (1, 3)), ("rc", (2, 3)), ("rd", (2,)))
SITUATIONS = [
    (network, catalog)
    for network in (PAIR, STAR, RING, ALONE, (("c",), ()), network_of("abc", "bc"))
    for catalog in (CHAIN, CHAIN[:1], APART, TWINS)
]


class Examples(unittest.TestCase):
    def test_examples(self):
        self.assertIs(is_valid(PAIR, CHAIN, ("ra", "rb")), True)
        self.assertEqual(conflicts(PAIR, CHAIN, ("ra", "rc")), (("c", "s"),))
        self.assertEqual(blockers(STAR, CHAIN, ("ra", "rb", "ra"), "s", "rc"), ("k",))
        self.assertEqual(run(PAIR, CHAIN, ("ra", "ra"), (("c", "rb"), ("s", "rc"))), ("rb", "rc"))
        self.assertEqual(list(walk(PAIR, CHAIN, ("ra", "ra"), (("c", "rb"),))), [("ra", "ra"), ("rb", "ra")])
        with self.assertRaises(NotPossible) as caught:
            run(PAIR, CHAIN, ("ra", "ra"), (("c", "rb"), ("c", "rc")))
        self.assertEqual(caught.exception.index, 1)


class States(unittest.TestCase):
    def test_all_states(self):
        for network, catalog in SITUATIONS:
            for state in search.all_states(network, catalog):
                wrong = tuple(search.wrong_talks(network, catalog, state))
                self.assertIs(is_state(network, catalog, state), True)
                self.assertIs(is_valid(network, catalog, state), not wrong)
                self.assertEqual(conflicts(network, catalog, state), wrong)
                self.assertIs(type(conflicts(network, catalog, state)), tuple)

    def test_conflicts_are_ascending(self):
        network = network_of("abcde", *itertools.combinations("abcde", 2))
        state = ("ra", "rd", "ra", "rc", "rd")
        wrong = tuple(pair for pair in network[1] if pair not in (("a", "c"), ("b", "d"), ("b", "e"), ("d", "e")))
        self.assertEqual(conflicts(network, CHAIN, state), wrong)
        self.assertEqual(conflicts(network, CHAIN, ("rb",) * 5), ())

    def test_variants_of_a_state(self):
        for network, catalog in SITUATIONS:
            states = {repr(state) for state in search.all_states(network, catalog)}
            valid = {repr(state) for state in search.valid_states(network, catalog)}
            for value in variants(("ra",) * len(network[0])):
                check_any_value(self, lambda given: is_state(network, catalog, given), value, repr(value) in states)
                check_any_value(self, lambda given: is_valid(network, catalog, given), value, repr(value) in valid)

    def test_any_value_in_each_place(self):
        for value in any_values():
            for given in (value, (value,), (value, "ra"), ("ra", value), (value, value), ("ra", "ra", value)):
                check_any_value(self, lambda given: is_state(PAIR, CHAIN, given), given, False)
                check_any_value(self, lambda given: is_valid(PAIR, CHAIN, given), given, False)

    def test_number_of_releases(self):
        for many in range(15):
            for services in (1, 2, 3, 12):
                network = (tuple(LETTERS[:services]), ())
                check_any_value(self, lambda given: is_state(network, CHAIN, given), ("ra",) * many, many == services)
                check_any_value(self, lambda given: is_valid(network, CHAIN, given), ("rd",) * many, many == services)

    def test_services_and_releases_are_not_mixed_up(self):
        network, catalog = (("ra", "rb"), (("ra", "rb"),)), (("c", (1,)), ("s", (2,)))
        self.assertIs(is_state(network, catalog, ("ra", "rb")), False)
        self.assertIs(is_state(network, catalog, ("c", "s")), True)
        self.assertIs(is_valid(network, catalog, ("c", "s")), False)
        self.assertIs(is_state(PAIR, CHAIN, (CHAIN[0], CHAIN[0])), False)

    def test_releases_of_lone_services_do_not_matter(self):
        self.assertIs(is_valid(WITH_LONE, CHAIN, ("ra", "rd", "rb", "rc")), True)
        self.assertIs(is_valid(ALONE, APART, ("ra", "rc")), True)
        self.assertEqual(conflicts(ALONE, APART, ("ra", "rc")), ())


class Blockers(unittest.TestCase):
    def test_all_replacements(self):
        for network, catalog in SITUATIONS:
            for state in search.valid_states(network, catalog):
                for service, release in search.all_replacements(network, catalog):
                    after = search.state_after(network, state, (service, release))
                    wrong = search.wrong_talks(network, catalog, after)
                    others = tuple(sorted(name for pair in wrong for name in pair if name != service))
                    self.assertEqual(blockers(network, catalog, state, service, release), others)
                    self.assertIs(type(blockers(network, catalog, state, service, release)), tuple)

    def test_several_blockers_are_ascending(self):
        network = network_of("abcdef", "ca", "cf", "cb", "ce", "ab")
        state = ("rb", "ra", "rb", "rd", "rc", "rb")
        self.assertEqual(blockers(network, CHAIN, state, "c", "rd"), ("a", "b", "f"))
        self.assertEqual(blockers(network, CHAIN, state, "c", "ra"), ("e",))
        self.assertEqual(blockers(network, CHAIN, state, "d", "ra"), ())

    def test_old_and_new_release_need_not_be_compatible(self):
        self.assertEqual(blockers(PAIR, CHAIN, ("ra", "rb"), "c", "rc"), ())
        self.assertEqual(run(PAIR, CHAIN, ("ra", "rb"), (("c", "rc"),)), ("rc", "rb"))

    def test_no_service(self):
        for value in any_values() + ["a", "ra", "cs"]:
            for release in ("ra", "re", value):
                check_refused(self, lambda: blockers(PAIR, CHAIN, ("ra", "ra"), value, release), NoService, value)

    def test_no_release(self):
        for value in any_values() + ["re", "c", "s"]:
            for service in ("c", "s"):
                check_refused(self, lambda: blockers(PAIR, CHAIN, ("ra", "ra"), service, value), NoRelease, value)
            check_refused(self, lambda: blockers(ALONE, CHAIN, ("ra", "ra"), "a", value), NoRelease, value)


class Run(unittest.TestCase):
    def check_run(self, network, catalog, state, schedule):
        states = search.steps_of(network, catalog, state, schedule)
        if search.wrong_talks(network, catalog, states[-1]):
            with self.assertRaises(NotPossible) as caught:
                run(network, catalog, state, schedule)
            self.assertEqual(caught.exception.index, len(states) - 2)
            self.assertIs(type(caught.exception.index), int)
        else:
            self.assertEqual(run(network, catalog, state, schedule), states[-1])
            self.assertEqual(list(walk(network, catalog, state, schedule)), states)

    def test_all_short_schedules(self):
        for network in (PAIR, ALONE, (("c",), ())):
            for catalog in (CHAIN[:3], APART):
                for many in range(4):
                    for schedule in itertools.product(search.all_replacements(network, catalog), repeat=many):
                        for state in search.valid_states(network, catalog):
                            self.check_run(network, catalog, state, schedule)

    def test_all_pairs_of_replacements(self):
        for network in (STAR, RING, network_of("abc", "bc")):
            for catalog in (CHAIN, TWINS):
                for schedule in itertools.product(search.all_replacements(network, catalog), repeat=2):
                    for state in search.valid_states(network, catalog)[::5]:
                        self.check_run(network, catalog, state, schedule)

    def test_the_empty_schedule(self):
        for network, catalog in SITUATIONS:
            for state in search.valid_states(network, catalog):
                self.assertEqual(run(network, catalog, state, ()), state)
                self.assertIs(type(run(network, catalog, state, ())), tuple)

    def test_400_and_401_replacements(self):
        back_and_forth = (("c", "rb"), ("s", "rb"), ("c", "ra"), ("s", "ra")) * 101
        for many in (1, 4, 398, 399, 400):
            self.check_run(PAIR, CHAIN, ("ra", "ra"), back_and_forth[:many])
        for many in (401, 402, 404):
            schedule = back_and_forth[:many]
            check_refused(self, lambda: run(PAIR, CHAIN, ("ra", "ra"), schedule), BadSchedule, schedule)
        last_fails = (("c", "ra"),) * 399 + (("c", "rc"),)
        with self.assertRaises(NotPossible) as caught:
            run(PAIR, CHAIN, ("ra", "ra"), last_fails)
        self.assertEqual(caught.exception.index, 399)
        too_many = last_fails[:1] + last_fails
        check_refused(self, lambda: run(PAIR, CHAIN, ("ra", "ra"), too_many), BadSchedule, too_many)

    def test_a_replacement_by_the_release_that_runs_already(self):
        for network, catalog in SITUATIONS:
            for state in search.valid_states(network, catalog)[::3]:
                for replacement in zip(network[0], state):
                    self.assertEqual(run(network, catalog, state, (replacement,) * 2), state)
                    self.assertEqual(list(walk(network, catalog, state, (replacement,) * 2)), [state] * 3)

    def test_lone_services_run_anything(self):
        self.assertEqual(run(ALONE, APART, ("ra", "rb"), (("a", "rc"), ("b", "rc"))), ("rc", "rc"))
        self.assertEqual(run(WITH_LONE, APART, ("ra",) * 4, (("b", "rc"), ("c", "rb"))), ("ra", "rc", "rb", "ra"))

    def test_releases_that_do_not_reach_each_other(self):
        for at, service in enumerate("acd"):
            schedule = (("b", "rc"),) * at + ((service, "rc"),)
            with self.assertRaises(NotPossible) as caught:
                run(WITH_LONE, APART, ("ra",) * 4, schedule)
            self.assertEqual(caught.exception.index, at)

    def test_only_the_first_index_is_told(self):
        schedule = (("c", "rb"), ("c", "rd"), ("s", "rd"), ("c", "rc"))
        for at, many in ((0, 3), (1, 4)):
            with self.assertRaises(NotPossible) as caught:
                run(PAIR, CHAIN, ("ra", "ra"), schedule[1 - at:many])
            self.assertEqual(caught.exception.index, at)


class BadSchedules(unittest.TestCase):
    def check(self, network, catalog, state, value):
        before = copy.deepcopy(value)
        if not search.has_form_of_schedule(network, catalog, value):
            check_refused(self, lambda: run(network, catalog, state, value), BadSchedule, value)
            return
        states = search.steps_of(network, catalog, state, value)
        if search.wrong_talks(network, catalog, states[-1]):
            self.assertRaises(NotPossible, run, network, catalog, state, value)
        else:
            self.assertEqual(run(network, catalog, state, value), states[-1])
        self.assertEqual(repr(value), repr(before))

    def test_any_value(self):
        for value in any_values():
            if value != () or isinstance(value, list):
                check_refused(self, lambda: run(PAIR, CHAIN, ("ra", "ra"), value), BadSchedule, value)

    def test_variants(self):
        for value in variants((("c", "rb"), ("s", "rc"))):
            self.check(PAIR, CHAIN, ("ra", "ra"), value)
        for value in variants((("a", "rc"),)):
            self.check(ALONE, APART, ("ra", "ra"), value)

    def test_bad_schedule_comes_before_not_possible(self):
        impossible = ("c", "rd")
        for value in any_values() + [("c", "re"), ("t", "ra"), ("c",), ("c", "ra", "ra"), ("ra", "c"), ["c", "ra"]]:
            for schedule in ((impossible, value), (value, impossible), (impossible, ("c", "rb"), value)):
                check_refused(self, lambda: run(PAIR, CHAIN, ("ra", "ra"), schedule), BadSchedule, schedule)

    def test_services_and_releases_there_are_none_of(self):
        for replacement in (("t", "ra"), ("c", "re"), ("ra", "ra"), ("c", "c"), ("C", "ra"), ("", "ra"), ("c", "")):
            schedule = (("c", "ra"), replacement)
            check_refused(self, lambda: run(PAIR, CHAIN, ("ra", "ra"), schedule), BadSchedule, schedule)


class Walk(unittest.TestCase):
    def test_first_and_last_state(self):
        schedule = (("k", "rb"), ("s", "rb"), ("m", "rc"), ("s", "rb"), ("k", "rc"))
        states = list(walk(STAR, CHAIN, ("ra", "rb", "ra"), schedule))
        self.assertEqual(states[0], ("ra", "rb", "ra"))
        self.assertEqual(states[-1], run(STAR, CHAIN, ("ra", "rb", "ra"), schedule))
        self.assertEqual(len(states), 6)
        self.assertEqual(states, search.steps_of(STAR, CHAIN, ("ra", "rb", "ra"), schedule))
        self.assertEqual({type(state) for state in states}, {tuple})

    def test_the_empty_schedule(self):
        self.assertEqual(list(walk(PAIR, CHAIN, ("ra", "rb"), ())), [("ra", "rb")])

    def test_iterated_anew_by_another_call(self):
        schedule = (("c", "rb"), ("s", "rc"))
        first = walk(PAIR, CHAIN, ("ra", "ra"), schedule)
        second = walk(PAIR, CHAIN, ("ra", "ra"), schedule)
        both = [list(pair) for pair in zip(first, second)]
        self.assertEqual(both, [[("ra", "ra")] * 2, [("rb", "ra")] * 2, [("rb", "rc")] * 2])
        self.assertEqual(len(list(walk(PAIR, CHAIN, ("ra", "ra"), schedule))), 3)

    def test_states_stay_as_they_are(self):
        kept = []
        for state in walk(ALONE, APART, ("ra", "ra"), (("a", "rb"), ("a", "rc"), ("b", "rc"))):
            kept.append(state)
        self.assertEqual(kept, [("ra", "ra"), ("rb", "ra"), ("rc", "ra"), ("rc", "rc")])

    def test_400_replacements(self):
        schedule = (("c", "rb"), ("c", "ra")) * 200
        self.assertEqual(list(walk(PAIR, CHAIN, ("ra", "ra"), schedule))[1:], [("rb", "ra"), ("ra", "ra")] * 200)


class Calls(unittest.TestCase):
    def test_arguments_by_name_in_another_sequence(self):
        self.assertIs(is_state(value=("ra", "rd"), catalog=CHAIN, network=PAIR), True)
        self.assertIs(is_valid(value=("ra", "rd"), catalog=CHAIN, network=PAIR), False)
        self.assertEqual(conflicts(state=("ra", "rd"), catalog=CHAIN, network=PAIR), (("c", "s"),))
        state = ("ra", "ra", "ra")
        self.assertEqual(blockers(release="rc", service="s", state=state, catalog=CHAIN, network=STAR), ("k", "m"))
        schedule = (("s", "rb"),)
        self.assertEqual(run(schedule=schedule, state=state, catalog=CHAIN, network=STAR), ("ra", "ra", "rb"))
        states = list(walk(schedule=schedule, state=state, catalog=CHAIN, network=STAR))
        self.assertEqual(states, [state, ("ra", "ra", "rb")])

    def test_the_first_error_does_not_depend_on_the_sequence_of_the_names(self):
        one, other = ["one"], ["other"]
        check_refused(self, lambda: blockers(release=other, service=one, state=("ra", "ra"), catalog=CHAIN,
                                             network=PAIR), NoService, one)

    def test_arguments_are_not_changed_and_results_are_equal(self):
        given = (STAR, CHAIN, ("ra", "ra", "ra"), (("s", "rb"), ("k", "rc")))
        same = copy.deepcopy(given)
        self.assertEqual(run(*given), run(*same))
        self.assertEqual(list(walk(*given)), list(walk(*same)))
        self.assertEqual(blockers(*given[:3], "s", "rc"), blockers(*same[:3], "s", "rc"))
        self.assertEqual(conflicts(*given[:3]), conflicts(*same[:3]))
        self.assertEqual(repr(given), repr(same))

    def test_somewhat_beyond_the_limits(self):
        names = tuple("service" + letter * 3 for letter in LETTERS)
        network, catalog = (names, tuple(zip(names, names[1:]))), chain(14)
        state = tuple(LETTERS)
        self.assertIs(is_valid(network, catalog, state), True)
        self.assertEqual(blockers(network, catalog, state, names[5], "i"), (names[4], names[6]))
        self.assertEqual(run(network, catalog, state, ((names[0], "b"),)), ("b",) + state[1:])

    def test_all_networks_of_four_services(self):
        catalog = CHAIN[:3]
        for network in all_networks("abcd"):
            for state in search.all_states(network, catalog)[::7]:
                self.assertEqual(conflicts(network, catalog, state),
                                 tuple(search.wrong_talks(network, catalog, state)))


if __name__ == "__main__":
    unittest.main()
