"""Definitions 3.1, 3.2 and 3.6, and section 5."""

import copy
import itertools
import unittest

from gridupgrade.catalogs import compatible, distance, is_catalog, is_name, is_release, levels, path, reachable
from gridupgrade.errors import NoRelease, Unreachable
from tests.values import CHAIN, LETTERS, all_graphs, any_values, catalog_of, check_any_value, check_refused


def shortest_paths(names, pairs, start, end):
    """Return all shortest paths, ascending, by trying all sequences of releases between the ends."""
    if start == end:
        return [(start,)]
    linked = {pair for one, other in pairs for pair in ((one, other), (other, one))}
    between = [name for name in names if name not in (start, end)]
    for many in range(len(between) + 1):
        ways = [(start, *middle, end) for middle in itertools.permutations(between, many)]
        fitting = [way for way in ways if all(step in linked for step in zip(way, way[1:]))]
        if fitting:
            return sorted(fitting)
    return []


class Names(unittest.TestCase):
    def test_names(self):
        for value in ("a", "z", "az", "ra", "abcdefgh", "zzzzzzzz", "none", "true"):
            check_any_value(self, is_name, value, True)

    def test_lengths(self):
        for length in range(12):
            check_any_value(self, is_name, "m" * length, 1 <= length <= 8)

    def test_letters(self):
        for number in range(0x250):
            for value in (chr(number), "a" + chr(number), chr(number) + "a"):
                check_any_value(self, is_name, value, chr(number) in "abcdefghijklmnopqrstuvwxyz")

    def test_any_value(self):
        for value in any_values():
            check_any_value(self, is_name, value, False)


class Releases(unittest.TestCase):
    def test_releases(self):
        for value in (("a", (0,)), ("abcdefgh", (10 ** 9,)), ("ra", (1, 2)), ("ra", (0, 10 ** 9)), *CHAIN):
            check_any_value(self, is_release, value, True)

    def test_number_of_versions(self):
        for many in range(12):
            check_any_value(self, is_release, ("ra", tuple(range(many))), 1 <= many <= 8)

    def test_version_limits(self):
        for version in (-10 ** 30, -2, -1, 0, 1, 10 ** 9 - 1, 10 ** 9, 10 ** 9 + 1, 10 ** 30 - 1):
            check_any_value(self, is_release, ("ra", (version,)), 0 <= version <= 10 ** 9)
        for versions in ((-1, 0), (-1, 5), (5, 10 ** 9 + 1), (10 ** 9, 10 ** 9 + 1)):
            check_any_value(self, is_release, ("ra", versions), False)

    def test_versions_must_be_ascending(self):
        for versions in ((2, 1), (1, 1), (0, 2, 1), (1, 2, 2), (3, 1, 2), (1, 2, 3, 3)):
            check_any_value(self, is_release, ("ra", versions), False)

    def test_booleans_are_not_versions(self):
        for versions in ((True,), (False,), (0, True), (False, 1), (True, 2), (0, True, 2)):
            check_any_value(self, is_release, ("ra", versions), False)

    def test_any_value_in_each_place(self):
        for value in any_values():
            check_any_value(self, is_release, value, False)
            check_any_value(self, is_release, (value, (1, 2)), False)
            fits = value == (1, 2) and isinstance(value, tuple)
            check_any_value(self, is_release, ("ra", value), fits)
            fits = isinstance(value, int) and not isinstance(value, bool) and 0 <= value <= 10 ** 9
            check_any_value(self, is_release, ("ra", (value,)), fits)
            check_any_value(self, is_release, ("ra", (value, 10 ** 9)), fits and value < 10 ** 9)
            check_any_value(self, is_release, ("ra", (0, value)), fits and value > 0)

    def test_wrong_forms(self):
        wrong = [
            ("ra",), ("ra", (1,), ()), ("ra", (1,), None), ((1,), "ra"), ["ra", (1,)], ("ra", [1]), ("ra", 1),
            ("ra", 1, 2), ("ra", "1"), ("ra", ("1",)), ("ra", {1: 2}), {"ra": (1,)}, ("abcdefghi", (1,)), ("", (1,)),
            ("Ra", (1,)), ("r1", (1,)), (("ra", (1,)),),
        ]
        for value in wrong:
            check_any_value(self, is_release, value, False)


class Catalogs(unittest.TestCase):
    def test_catalogs(self):
        for value in (CHAIN, CHAIN[:1], (("a", (1,)), ("b", (1,))), (("a", (5,)), ("ab", (1,)), ("b", (3, 4)))):
            check_any_value(self, is_catalog, value, True)

    def test_number_of_releases(self):
        for many in range(15):
            value = tuple((name, (1,)) for name in LETTERS[:many])
            check_any_value(self, is_catalog, value, 1 <= many <= 12)

    def test_releases_must_be_ascending(self):
        for order in itertools.permutations(CHAIN[:3]):
            check_any_value(self, is_catalog, order, order == CHAIN[:3])
        check_any_value(self, is_catalog, CHAIN[::-1], False)

    def test_no_name_twice(self):
        for value in (CHAIN[:1] * 2, (("ra", (1,)), ("ra", (2,))), (("ra", (1,)), ("ra", (2,)), ("rb", (1,)))):
            check_any_value(self, is_catalog, value, False)

    def test_any_value_in_each_place(self):
        for value in any_values():
            fits = isinstance(value, tuple) and value == (("ra", (1, 2)),)
            check_any_value(self, is_catalog, value, fits)
            for at in range(4):
                check_any_value(self, is_catalog, CHAIN[:at] + (value,) + CHAIN[at + 1:], False)
            check_any_value(self, is_catalog, ((value, (1, 2)),) + CHAIN[1:], False)

    def test_wrong_forms(self):
        for value in (list(CHAIN), CHAIN[0], dict(CHAIN), CHAIN[:3] + (["rd", (4, 5)],), CHAIN + (("re", (True,)),)):
            check_any_value(self, is_catalog, value, False)
        for value in (CHAIN + (("re", ()),), CHAIN + (("RE", (1,)),), (("Ra", (1,)), ("rb", (2,)))):
            check_any_value(self, is_catalog, value, False)


class Examples(unittest.TestCase):
    def test_examples(self):
        self.assertIs(compatible(CHAIN, "ra", "rb"), True)
        self.assertIs(compatible(CHAIN, "ra", "rc"), False)
        self.assertEqual(distance(CHAIN, "ra", "rd"), 3)
        self.assertEqual(path(CHAIN, "rd", "rb"), ("rd", "rc", "rb"))
        gap = CHAIN[:1] + CHAIN[2:]
        self.assertEqual(reachable(gap, "rc"), ("rc", "rd"))
        self.assertEqual(levels(CHAIN, "rb"), (("rb",), ("ra", "rc"), ("rd",)))
        with self.assertRaises(Unreachable) as caught:
            path(gap, "ra", "rd")
        self.assertEqual(caught.exception.names, ("ra",))


class Refusals(unittest.TestCase):
    def test_no_release_in_each_place(self):
        for value in any_values() + ["re", "a", "r", "raa"]:
            check_refused(self, lambda: reachable(CHAIN, value), NoRelease, value)
            check_refused(self, lambda: levels(CHAIN, value), NoRelease, value)
            for function in (compatible, distance, path):
                check_refused(self, lambda: function(CHAIN, value, "ra"), NoRelease, value)
                check_refused(self, lambda: function(CHAIN, "ra", value), NoRelease, value)

    def test_the_first_one_is_named(self):
        for function in (compatible, distance, path):
            for first, second in itertools.permutations([["ra"], {"ra": []}, None, "re", ("rb",), ""], 2):
                check_refused(self, lambda: function(CHAIN, first, second), NoRelease, first)

    def test_the_first_parameter_counts_and_not_the_first_keyword(self):
        first, second = ["first"], ["second"]
        check_refused(self, lambda: compatible(other=second, one=first, catalog=CHAIN), NoRelease, first)
        check_refused(self, lambda: distance(end=second, start=first, catalog=CHAIN), NoRelease, first)
        check_refused(self, lambda: path(end=second, start=first, catalog=CHAIN), NoRelease, first)

    def test_no_release_comes_before_unreachable(self):
        gap = CHAIN[:1] + CHAIN[2:]
        check_refused(self, lambda: path(gap, "ra", "rb"), NoRelease, "rb")
        check_refused(self, lambda: path(gap, "rb", "rd"), NoRelease, "rb")

    def test_a_release_is_called_by_its_name(self):
        release = CHAIN[0]
        check_refused(self, lambda: distance(CHAIN, release, "ra"), NoRelease, release)

    def test_unreachable_names_what_can_be_reached(self):
        catalog = catalog_of("abcde", [("a", "c"), ("c", "e"), ("b", "d")])
        for start, end, names in (("e", "b", ("a", "c", "e")), ("b", "e", ("b", "d")), ("d", "a", ("b", "d"))):
            with self.assertRaises(Unreachable) as caught:
                path(catalog, start, end)
            self.assertEqual(caught.exception.names, names)


class Ways(unittest.TestCase):
    def check_all_pairs(self, names, pairs):
        catalog = catalog_of(names, pairs)
        self.assertIs(is_catalog(catalog), True)
        for start, end in itertools.product(names, repeat=2):
            ways = shortest_paths(names, pairs, start, end)
            steps = len(ways[0]) - 1 if ways else None
            self.assertEqual(distance(catalog, start, end), steps)
            self.assertIs(compatible(catalog, start, end), steps in (0, 1))
            if ways:
                self.assertEqual(path(catalog, start, end), ways[0])
            else:
                with self.assertRaises(Unreachable) as caught:
                    path(catalog, start, end)
                self.assertEqual(caught.exception.names, reachable(catalog, start))
        for start in names:
            self.check_levels(catalog, start, {end: distance(catalog, start, end) for end in names})

    def check_levels(self, catalog, start, steps):
        near = tuple(sorted(name for name in steps if steps[name] is not None))
        self.assertEqual(reachable(catalog, start), near)
        deepest = max(steps[name] for name in near)
        by_level = tuple(tuple(name for name in near if steps[name] == at) for at in range(deepest + 1))
        self.assertEqual(levels(catalog, start), by_level)
        self.assertIs(type(levels(catalog, start)), tuple)
        self.assertEqual({type(level) for level in levels(catalog, start)}, {tuple})

    def test_all_small_catalogs(self):
        for names in ("a", "ab", "abc", "abcd"):
            for pairs in all_graphs(names):
                self.check_all_pairs(names, pairs)

    def test_many_catalogs_of_five_releases(self):
        for pairs in list(all_graphs("abcde"))[::7]:
            self.check_all_pairs("abcde", pairs)

    def test_the_first_of_several_shortest_paths(self):
        pairs = [("a", "d"), ("a", "c"), ("a", "b"), ("b", "e"), ("c", "f"), ("d", "e"), ("e", "g"), ("f", "g")]
        catalog = catalog_of("abcdefg", pairs)
        self.assertEqual(path(catalog, "a", "g"), ("a", "b", "e", "g"))
        self.assertEqual(path(catalog, "g", "a"), ("g", "e", "b", "a"))

    def test_the_least_first_step_may_be_a_detour(self):
        pairs = [("a", "b"), ("b", "c"), ("c", "f"), ("a", "e"), ("a", "d"), ("d", "f"), ("e", "f")]
        catalog = catalog_of("abcdef", pairs)
        self.assertEqual(path(catalog, "a", "f"), ("a", "d", "f"))

    def test_to_itself(self):
        for name, _ in CHAIN:
            self.assertEqual(distance(CHAIN, name, name), 0)
            self.assertEqual(path(CHAIN, name, name), (name,))
            self.assertIs(compatible(CHAIN, name, name), True)
        alone = (("ra", (7,)),)
        self.assertEqual([levels(alone, "ra"), reachable(alone, "ra")], [(("ra",),), ("ra",)])

    def test_nothing_leads_there(self):
        apart = (("ra", (1,)), ("rb", (2,)))
        self.assertIsNone(distance(apart, "ra", "rb"))
        self.assertIs(compatible(apart, "ra", "rb"), False)

    def test_equal_versions(self):
        twins = (("ra", (1, 3)), ("rb", (1, 3)), ("rc", (2, 3)))
        self.assertEqual(distance(twins, "ra", "rb"), 1)
        self.assertEqual(path(twins, "rb", "ra"), ("rb", "ra"))
        self.assertEqual(levels(twins, "rb"), (("rb",), ("ra", "rc")))

    def test_any_common_version_counts(self):
        wide = (("ra", tuple(range(8))), ("rb", (7, 10 ** 9)), ("rc", (8, 10 ** 9)), ("rd", (0, 9)))
        self.assertIs(compatible(wide, "ra", "rb"), True)
        self.assertIs(compatible(wide, "rb", "rc"), True)
        self.assertIs(compatible(wide, "rd", "ra"), True)
        self.assertIs(compatible(wide, "ra", "rc"), False)

    def test_long_chain(self):
        chain = tuple((name, (at, at + 1)) for at, name in enumerate(LETTERS[:12]))
        self.assertEqual(distance(chain, "a", "l"), 11)
        self.assertEqual(path(chain, "l", "a"), tuple("lkjihgfedcba"))
        self.assertEqual(levels(chain, "c")[:3], (("c",), ("b", "d"), ("a", "e")))

    def test_somewhat_beyond_the_limits(self):
        names = tuple("release" + letter * 3 for letter in LETTERS)
        chain = tuple((name, tuple(range(at * 10, at * 10 + 11))) for at, name in enumerate(names))
        self.assertEqual(distance(chain, names[0], names[13]), 13)
        self.assertEqual(path(chain, names[0], names[13]), names)
        self.assertEqual(reachable(chain, names[5]), names)


class Calls(unittest.TestCase):
    def test_arguments_by_name_in_another_sequence(self):
        self.assertIs(is_name(value="ra"), True)
        self.assertIs(is_release(value=CHAIN[0]), True)
        self.assertIs(is_catalog(value=CHAIN), True)
        self.assertIs(compatible(other="rb", catalog=CHAIN, one="ra"), True)
        self.assertEqual(distance(end="rd", start="rb", catalog=CHAIN), 2)
        self.assertEqual(reachable(start="rb", catalog=CHAIN), ("ra", "rb", "rc", "rd"))
        self.assertEqual(levels(start="rd", catalog=CHAIN), (("rd",), ("rc",), ("rb",), ("ra",)))
        self.assertEqual(path(end="rc", catalog=CHAIN, start="ra"), ("ra", "rb", "rc"))

    def test_arguments_are_not_changed(self):
        catalog = copy.deepcopy(CHAIN)
        for function in (compatible, distance, path):
            function(catalog, "ra", "rd")
        for function in (levels, reachable):
            function(catalog, "rb")
        self.assertEqual(repr(catalog), repr(CHAIN))

    def test_equal_calls_return_equal_results(self):
        for function in (compatible, distance, path):
            self.assertEqual(function(CHAIN, "ra", "rd"), function(copy.deepcopy(CHAIN), "ra", "rd"))


if __name__ == "__main__":
    unittest.main()
