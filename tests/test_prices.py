"""Definition 3.11, section 11, and guarantee (b) of section 4."""

import copy
import itertools
import unittest

from gridupgrade.errors import BadPrice, NoRelease, NotTwoSided, Unreachable
from gridupgrade.networks import odd_cycle, shows_odd_cycle
from gridupgrade.prices import are_prices, cheapest, flow, least_price, price_of, priced, shows_cheapest
from gridupgrade.states import run
from gridupgrade.upgrades import fewest, schedule_with
from tests import search
from tests.values import (
    ALONE, CHAIN, GAP, LETTERS, PAIR, RING, STAR, TWO_WAYS, WITH_LONE, all_graphs, all_networks, any_values, catalog_of,
    chain, check_any_value, check_refused, network_of, ring, row, two_sides, variants,
)

FUNCTIONS = (least_price, cheapest, flow)
MOST = 10 ** 6


class Examples(unittest.TestCase):
    def test_examples(self):
        costs = priced(s=5, k=1)
        self.assertEqual(costs, (("k", 1), ("s", 5)))
        self.assertEqual(least_price(STAR, CHAIN, "ra", "rc", costs), 9)
        self.assertEqual(flow(STAR, CHAIN, "ra", "rc", costs), ((("k", 1), ("s", 1), 1), (("m", 1), ("s", 1), 1)))
        self.assertEqual(price_of((("s", "rb"), ("k", "rb")), costs), 6)
        both = (cheapest(STAR, CHAIN, "ra", "rc", costs), flow(STAR, CHAIN, "ra", "rc", costs))
        self.assertIs(shows_cheapest(STAR, CHAIN, "ra", "rc", costs, both), True)


class ArePrices(unittest.TestCase):
    def check(self, value, expected):
        check_any_value(self, are_prices, value, expected)

    def right(self, value):
        """Return whether the value is prices, word by word as definition 3.11 says."""
        if type(value) is not tuple or not all(type(pair) is tuple and len(pair) == 2 for pair in value):
            return False
        for name, amount in value:
            if type(name) is not str or not 1 <= len(name) <= 8 or set(name) - set("abcdefghijklmnopqrstuvwxyz"):
                return False
            if type(amount) is not int or not 1 <= amount <= MOST:
                return False
        names = [name for name, _ in value]
        return len(set(names)) == len(names) and list(value) == sorted(value)

    def test_no_one_and_several(self):
        for value in ((), (("a", 1),), (("k", 1), ("s", 5)), (("abcdefgh", 7),), (("a", 2), ("aa", 1), ("b", 1))):
            self.check(value, True)

    def test_limits_of_a_price(self):
        for amount in (1, 2, MOST - 1, MOST):
            self.check((("a", 1), ("s", amount)), True)
        for amount in (0, -1, MOST + 1, 10 ** 30 - 1, True, False, None, "1", (1,), [1]):
            self.check((("a", 1), ("s", amount)), False)
            self.check((("s", amount),), False)

    def test_a_name_twice(self):
        for one, other in itertools.product((1, 2, MOST), repeat=2):
            self.check((("a", one), ("a", other)), False)
            self.check((("a", one), ("b", 1), ("b", other)), False)
            self.check((("a", one), ("b", other)), True)

    def test_not_ascending(self):
        self.check((("b", 1), ("a", 2)), False)
        self.check((("a", 1), ("c", 1), ("b", 1)), False)
        self.check((("b", 1), ("aa", 1)), False)

    def test_more_names_than_a_network_has_services(self):
        for many in (12, 13, 100, 26 * 26):
            names = sorted("".join(letters) for letters in itertools.product("abcdefghijklmnopqrstuvwxyz", repeat=2))
            self.check(tuple((name, MOST) for name in names[:many]), True)
            self.check(tuple((name, MOST) for name in names[:many]) + (("zz", 1),), many < 26 * 26)

    def test_names(self):
        for name in ("abcdefghi", "", "A", "aB", "a1", "a_", "a b", " a", "\u00e9", "a\n"):
            self.check(((name, 1),), False)

    def test_any_value(self):
        for value in any_values():
            for given in (value, (value,), ((value, 1),), (("a", value),), (("a", 1), value), (("a", 1, value),)):
                self.check(given, self.right(given))

    def test_variants(self):
        for given in ((), (("k", 1), ("s", 5)), (("abcdefgh", MOST),)):
            for value in variants(given):
                self.check(value, self.right(value))


class Priced(unittest.TestCase):
    def refused(self, name, **given):
        before = copy.deepcopy(given)
        with self.assertRaises(BadPrice) as caught:
            priced(**given)
        self.assertEqual(caught.exception.name, name)
        self.assertEqual(repr(given), repr(before))

    def test_no_keyword_and_many(self):
        self.assertEqual(priced(), ())
        self.assertEqual(priced(b=2, a=1), (("a", 1), ("b", 2)))
        names = ["".join(letters) for letters in itertools.product("zyx", repeat=4)]
        found = priced(**{name: MOST - place for place, name in enumerate(names)})
        self.assertEqual(found, tuple(sorted((name, MOST - place) for place, name in enumerate(names))))
        self.assertIs(are_prices(found), True)
        self.assertEqual({type(pair) for pair in found}, {tuple})

    def test_names_that_the_program_uses_as_well(self):
        found = priced(self=1, name=2, value=3, prices=4, cls=5, key=6)
        self.assertEqual(found, (("cls", 5), ("key", 6), ("name", 2), ("prices", 4), ("self", 1), ("value", 3)))

    def test_keywords_that_are_no_names(self):
        for name in ("A", "aB", "a1", "a_b", "_", "abcdefghi", "", "a b", "a-b", "\u00e9", "\uff41"):
            self.refused(name, **{name: 1})
            self.refused(name, **{name: 0})
            self.refused(name, **{name: 1, "zz": 2} if name < "zz" else {name: 1, "a": 2})

    def test_no_prices(self):
        for value in any_values() + [MOST + 1, -5]:
            if type(value) is int and 1 <= value <= MOST:
                self.assertEqual(priced(a=value), (("a", value),))
            else:
                self.refused("a", a=value)
                self.refused("b", c=value, b=value, a=1)

    def test_the_least_keyword_is_told(self):
        self.refused("b", d=0, b=0, c=0, a=1)
        self.refused("B", a=0, B=1)
        self.refused("a", b1=1, a=0, c=1)
        self.refused("b1", b1=1, c=0, a=1)
        self.refused("aaaaaaaaa", b=None, aaaaaaaaa=1, a=1)

    def test_limits(self):
        self.assertEqual(priced(a=1, b=MOST), (("a", 1), ("b", MOST)))
        self.refused("b", a=1, b=MOST + 1)
        self.refused("a", a=0, b=MOST + 1)
        self.refused("a", a=True)


class PriceOf(unittest.TestCase):
    def check(self, schedule, prices, expected):
        self.assertEqual(price_of(schedule, prices), expected)
        self.assertIs(type(price_of(schedule, prices)), int)

    def test_services_with_a_price_and_others(self):
        schedule = (("s", "rb"), ("k", "rb"), ("m", "rc"), ("s", "rc"))
        self.check(schedule, (), 4)
        self.check(schedule, (("s", 5),), 12)
        self.check(schedule, (("k", 3), ("m", MOST), ("s", 5)), MOST + 13)
        self.check(schedule, (("t", 7), ("x", 9)), 4)
        self.check(schedule, (("k", 1), ("rb", 100), ("x", 9)), 4)

    def test_the_empty_schedule(self):
        for prices in ((), (("s", 5),)):
            self.check((), prices, 0)

    def test_400_replacements(self):
        self.check((("s", "rb"), ("k", "ra")) * 200, (("s", MOST),), 200 * MOST + 200)


class Checks(unittest.TestCase):
    def check(self, network, catalog, start, end, prices, least):
        """Check what the functions return where an upgrade has at least this price."""
        given = (network, catalog, start, end, prices)
        self.assertEqual(least_price(*given), least)
        self.assertIs(type(least_price(*given)), int)
        schedule, triples = cheapest(*given), flow(*given)
        self.assertTrue(search.is_upgrade(network, catalog, start, end, schedule))
        self.assertEqual(search.price([service for service, _ in schedule], prices), least)
        self.assertEqual(price_of(schedule, prices), least)
        steps = search.distances(catalog, start).get(end, 0)
        self.assertTrue(search.is_flow(network, steps, prices, triples))
        for one, other, _ in triples:
            self.assertEqual([type(one), type(other)], [tuple, tuple])
        whole = 0 if start == end else search.price(network[0], prices)
        self.assertEqual(sum(amount for _, _, amount in triples), least - whole)
        self.assertIs(shows_cheapest(*given, (schedule, triples)), True)

    def check_by_search(self, network, catalog, start, prices):
        """Check all upgrades from start in a two-sided network."""
        least = search.least_prices(network, catalog, start, prices)
        for end, _ in catalog:
            paid = least.get((end,) * len(network[0]))
            if paid is None:
                self.check_unreachable(network, catalog, start, end, prices)
            else:
                self.check(network, catalog, start, end, prices, paid)

    def check_unreachable(self, network, catalog, start, end, prices):
        near = tuple(sorted(search.distances(catalog, start)))
        self.assertNotIn(end, near)
        for function in FUNCTIONS:
            with self.assertRaises(Unreachable) as caught:
                function(network, catalog, start, end, prices)
            self.assertEqual(caught.exception.names, near)
            self.assertIs(type(caught.exception.names), tuple)

    def check_by_apart_sets(self, network, catalog, start, end, prices):
        steps = search.distances(catalog, start)[end]
        busy = search.busy(network)
        lone = [name for name in network[0] if name not in busy]
        spared = max(search.price([name for name, _ in nodes], prices) for nodes in search.all_apart(network, steps))
        least = search.price(lone, prices) + steps * search.price(busy, prices) - spared
        self.check(network, catalog, start, end, prices, least)


class SmallCases(Checks):
    def test_all_catalogs_of_four_releases(self):
        for pairs in all_graphs(("ra", "rb", "rc", "rd")):
            catalog = catalog_of(("ra", "rb", "rc", "rd"), pairs)
            for prices in ((), (("a", 3), ("c", 2)), (("b", 4),)):
                self.check_by_search(network_of("abc", "ab", "bc"), catalog, "ra", prices)
            for network in (network_of("abc", "ac"), *all_networks("ab")):
                self.check_by_search(network, catalog, "rc", (("a", 5), ("b", 2)))

    def test_all_networks_of_four_services(self):
        for network in all_networks("abcd"):
            if odd_cycle(network) is None:
                self.check_by_search(network, CHAIN, "ra", (("a", 2), ("b", 7), ("d", 3)))

    def test_all_small_prices(self):
        for prices in itertools.product((1, 2, 3), repeat=3):
            for network in (network_of("abc", "ab", "bc"), network_of("abc", "bc")):
                given = tuple(zip("abc", prices))
                self.check_by_search(network, CHAIN, "ra", given)
                self.check_by_search(network, TWO_WAYS, "rd", given)

    def test_by_apart_sets(self):
        networks = (PAIR, STAR, row(4), ring(4), two_sides(1, 4), two_sides(2, 3), WITH_LONE)
        for network in networks:
            for place, numbers in enumerate(((1, 1, 1, 1, 1), (9, 1, 5, 2, 7), (2, 3, 5, 8, 13), (6, 5, 4, 3, 10))):
                prices = tuple(zip(network[0], numbers))
                for end in "bcde"[:4 if len(network[0]) < 5 else 3]:
                    self.check_by_apart_sets(network, chain(6), "a", end, prices[place:])

    def test_a_dear_service_is_worth_several(self):
        # Skipping s once spares more than skipping both of its neighbours, or just as much.
        for dear, least in ((1, 4), (2, 6), (3, 7), (100, 104)):
            self.check(STAR, CHAIN, "ra", "rc", (("s", dear),), least)

    def test_all_flows(self):
        for network, prices in ((PAIR, (("c", 3), ("s", 2))), (STAR, (("s", 3), ("k", 2))), (STAR, (("m", 2),))):
            for end, steps in (("rb", 1), ("rc", 2), ("rd", 3)):
                if network == PAIR or steps < 3:
                    prices = tuple(sorted(prices))
                    sums = [sum(part[2] for part in flows) for flows in search.all_flows(network, steps, prices)]
                    found = flow(network, CHAIN, "ra", end, prices)
                    self.assertEqual(sum(part[2] for part in found), max(sums))
                    whole = search.price(network[0], prices)
                    self.assertEqual(least_price(network, CHAIN, "ra", end, prices), whole + max(sums))

    def test_names_that_are_no_services_do_not_matter(self):
        for network in (PAIR, STAR, WITH_LONE):
            plain = tuple(zip(network[0], (4, 9, 2, 6)))
            others = (("aa", 5), ("ra", MOST), ("zz", 1))
            for prices in ((), plain):
                more = tuple(sorted(prices + others))
                for function in FUNCTIONS:
                    self.assertEqual(function(network, CHAIN, "ra", "rd", more),
                                     function(network, CHAIN, "ra", "rd", prices))
                both = cheapest(network, CHAIN, "ra", "rd", prices), flow(network, CHAIN, "ra", "rd", prices)
                self.assertIs(shows_cheapest(network, CHAIN, "ra", "rd", more, both), True)


class GreatCases(Checks):
    def complete(self, one, other, prices, steps):
        """Return the least price in a complete two-sided network.

        At each level only nodes of one side are apart; of two following levels at most all
        services together can be spared, and just the whole sides, turn by turn, give so much.
        """
        left = search.price(LETTERS[:one], prices)
        right = search.price(LETTERS[one:one + other], prices)
        spared = (steps - 1) // 2 * (left + right) + (steps - 1) % 2 * max(left, right)
        return steps * (left + right) - spared

    def test_complete_two_sided_networks(self):
        catalog = chain(12)
        for one, other in ((6, 6), (1, 11), (4, 8), (3, 3)):
            for numbers in ((1,) * 12, (MOST,) * 12, range(1, 13), range(MOST, 0, -83333), (7, MOST) * 6):
                prices = tuple(zip(LETTERS[:one + other], numbers))
                for steps in (1, 2, 10, 11):
                    least = self.complete(one, other, prices, steps)
                    self.check(two_sides(one, other), catalog, "a", LETTERS[steps], prices, least)
                self.check(two_sides(one, other), catalog, "l", "a", prices, least)

    def test_thirty_six_talks(self):
        network = two_sides(6, 6)
        self.assertEqual(len(network[1]), 36)
        self.check(network, chain(12), "a", "l", (), 72)
        self.check(network, chain(12), "a", "l", tuple((name, MOST) for name in network[0]), 72 * MOST)
        self.check(network, chain(12), "a", "l", (("a", MOST),), 6 * MOST + 66)

    def test_rows_and_even_rings(self):
        catalog = chain(12)
        for network in (row(12), row(11), ring(12), ring(8)):
            for steps in range(1, 12):
                many = fewest(network, catalog, "a", LETTERS[steps])
                for amount in (1, 3, MOST):
                    prices = tuple((name, amount) for name in network[0])
                    self.check(network, catalog, "a", LETTERS[steps], prices, amount * many)

    def test_lone_services(self):
        network = network_of(LETTERS[:12], "be", "fk")
        prices = (("a", 100), ("b", 3), ("e", 5), ("f", 2), ("k", 2), ("l", 1000))
        alone = 100 + 1000 + 6
        self.check(network, chain(12), "a", "l", prices, alone + 6 * (8 + 4))
        self.check(network, chain(12), "l", "b", prices, alone + 10 * (8 + 4) - 4 * (8 + 4) - 5 - 2)
        self.check(network, chain(12), "d", "d", prices, 0)

    def test_equal_prices_beside_fewest(self):
        for network in (PAIR, STAR, WITH_LONE, ALONE, ring(6), two_sides(3, 4), row(7)):
            for start, end in (("a", "f"), ("c", "b"), ("e", "e"), ("f", "b")):
                many = fewest(network, chain(6), start, end)
                for amount in (1, 2, MOST):
                    prices = tuple((name, amount) for name in network[0])
                    self.check(network, chain(6), start, end, prices, amount * many)
                self.check(network, chain(6), start, end, (), many)

    def test_all_prices_times_a_factor(self):
        for network in (STAR, ring(6), two_sides(3, 4), WITH_LONE, row(9)):
            prices = tuple(zip(network[0], (3, 14, 15, 92, 65, 35, 89, 79, 32)))
            for end in "bdgl":
                least = least_price(network, chain(12), "a", end, prices)
                for factor in (1, 2, 1000):
                    dearer = tuple((name, factor * amount) for name, amount in prices)
                    self.check(network, chain(12), "a", end, dearer, factor * least)

    def test_start_is_end(self):
        for network in (PAIR, STAR, WITH_LONE, ALONE, two_sides(6, 6)):
            for catalog in (CHAIN, GAP):
                for name, _ in catalog:
                    for prices in ((), (("a", 5), ("s", 7))):
                        self.check(network, catalog, name, name, prices, 0)
                        self.assertEqual(cheapest(network, catalog, name, name, prices), ())
                        self.assertEqual(flow(network, catalog, name, name, prices), ())

    def test_no_two_services_talk(self):
        for catalog in (CHAIN, GAP):
            for start, end in (("ra", "rc"), ("rc", "ra"), ("ra", "rd")):
                self.check(ALONE, catalog, start, end, (), 2)
                self.check(ALONE, catalog, start, end, (("b", 7),), 8)
                self.assertEqual(flow(ALONE, catalog, start, end, (("b", 7),)), ())


class Refusals(Checks):
    def test_no_release(self):
        shown = (lambda *given: shows_cheapest(*given, ((), ())),)
        for value in any_values() + ["rb", "c"]:
            for network in (PAIR, RING, ALONE):
                for function in FUNCTIONS + shown:
                    check_refused(self, lambda: function(network, GAP, value, "ra", ()), NoRelease, value)
                    check_refused(self, lambda: function(network, GAP, "ra", value, ()), NoRelease, value)
                    other = ["other"]
                    check_refused(self, lambda: function(network, GAP, value, other, ()), NoRelease, value)

    def test_not_two_sided_comes_before_unreachable(self):
        with_ring = network_of("abcdefg", "bd", "bf", "df", "ac", "ce")
        for network in (RING, ring(5), with_ring):
            for start, end in itertools.product(("ra", "rc", "rd"), repeat=2):
                for catalog, function in itertools.product((GAP, CHAIN), FUNCTIONS):
                    with self.assertRaises(NotTwoSided) as caught:
                        function(network, catalog, start, end, (("a", 2),))
                    self.assertIs(shows_odd_cycle(network, caught.exception.cycle), True)

    def test_no_release_comes_before_not_two_sided(self):
        for function in FUNCTIONS:
            check_refused(self, lambda: function(RING, GAP, "ra", "rb", ()), NoRelease, "rb")
            check_refused(self, lambda: function(RING, GAP, "rb", "rb", ()), NoRelease, "rb")

    def test_unreachable(self):
        for network in (PAIR, STAR, WITH_LONE, two_sides(6, 6)):
            for start, end in (("ra", "rc"), ("ra", "rd"), ("rc", "ra"), ("rd", "ra")):
                self.check_unreachable(network, GAP, start, end, (("a", 2),))


class ShowsCheapest(unittest.TestCase):
    def expected(self, network, catalog, start, end, prices, value):
        """Return whether the value shows it, word by word as section 11 says."""
        if start == end:
            return repr(value) == "((), ())"
        if type(value) is not tuple or len(value) != 2:
            return False
        if not search.is_upgrade(network, catalog, start, end, value[0]):
            return False
        steps = search.distances(catalog, start).get(end, 0)
        if not search.is_flow(network, steps, prices, value[1]):
            return False
        amounts = sum(amount for _, _, amount in value[1])
        return search.price([name for name, _ in value[0]], prices) == search.price(network[0], prices) + amounts

    def check(self, network, catalog, start, end, prices, value):
        expected = self.expected(network, catalog, start, end, prices, value)
        given = (network, catalog, start, end, prices)
        check_any_value(self, lambda shown: shows_cheapest(*given, shown), value, expected)
        return expected

    def test_all_upgrades_with_all_flows(self):
        cases = ((PAIR, "rb", 4, ()), (PAIR, "rc", 4, (("c", 2), ("s", 3))), (PAIR, "rd", 5, (("c", 2),)),
                 (STAR, "rc", 5, (("s", 2),)), (STAR, "rc", 5, (("s", 3),)), (ALONE, "rc", 3, (("a", 4),)))
        for network, end, most, prices in cases:
            steps = search.distances(CHAIN, "ra")[end]
            least = search.least_prices(network, CHAIN, "ra", prices)[(end,) * len(network[0])]
            flows = search.all_flows(network, steps, prices)
            accepted = 0
            for schedule in search.all_upgrades(network, CHAIN[:3] if end != "rd" else CHAIN, "ra", end, most):
                paid = search.price([name for name, _ in schedule], prices)
                for triples in flows:
                    right = paid == search.price(network[0], prices) + sum(amount for _, _, amount in triples)
                    shown = shows_cheapest(network, CHAIN, "ra", end, prices, (schedule, triples))
                    self.assertIs(shown, right)
                    if shown:
                        accepted += 1
                        self.assertEqual(paid, least)
            self.assertGreater(accepted, 0)

    def test_variants(self):
        cases = ((PAIR, CHAIN, "rc", (("c", 2), ("s", 3))), (ALONE, GAP, "rd", (("b", 2),)),
                 (network_of("abc", "ac"), CHAIN, "rc", (("a", 5), ("c", 4))))
        for network, catalog, end, prices in cases:
            given = (network, catalog, "ra", end, prices)
            both = (cheapest(*given), flow(*given))
            found = [self.check(*given, value) for value in [both, *variants(both)]]
            self.assertIs(found[0], True)

    def test_one_more_or_one_fewer(self):
        dear = tuple(zip(LETTERS, (3, 1, 4, 1, 5, 9, 2, 6, 5, 3, 5, 8)))
        for given in ((STAR, CHAIN, "ra", "rd", (("s", 2),)), (two_sides(6, 6), chain(12), "a", "l", dear)):
            schedule, triples = cheapest(*given), flow(*given)
            self.assertIs(shows_cheapest(*given, (schedule, triples)), True)
            for at, replacement in enumerate(schedule):
                self.assertIs(shows_cheapest(*given, (schedule[:at] + schedule[at + 1:], triples)), False)
                longer = schedule[:at] + (replacement,) + schedule[at:]
                self.assertTrue(search.is_upgrade(*given[:4], longer))
                self.assertIs(shows_cheapest(*given, (longer, triples)), False)
            for at, (one, other, amount) in enumerate(triples):
                before, after = triples[:at], triples[at + 1:]
                wrong = [(), ((one, other, amount + 1),), ((one, other, amount - 1),), ((other, one, amount),),
                         ((one, other, amount), (one, other, amount)), ((one, other, amount), (one, other, amount + 1))]
                for part in wrong:
                    self.assertIs(shows_cheapest(*given, (schedule, before + part + after)), False)

    def test_a_pair_of_nodes_twice(self):
        # The amounts of the two add up to that of the one, so only the words "at most once" are against it.
        prices = (("c", 3), ("s", 3))
        schedule = cheapest(PAIR, CHAIN, "ra", "rc", prices)
        one, other = ("c", 1), ("s", 1)
        self.assertIs(shows_cheapest(PAIR, CHAIN, "ra", "rc", prices, (schedule, ((one, other, 3),))), True)
        for parts in (((one, other, 1), (one, other, 2)), ((one, other, 2), (one, other, 1))):
            self.assertIs(shows_cheapest(PAIR, CHAIN, "ra", "rc", prices, (schedule, parts)), False)

    def test_all_small_sets_of_triples(self):
        base = cheapest(PAIR, CHAIN, "ra", "rd", ())
        whole = len(PAIR[0])
        self.assertEqual(len(base), whole + 2)
        accepted = set()
        grid = search.all_nodes(PAIR, 3)
        triples = [(*pair, amount) for pair in itertools.product(grid, repeat=2) for amount in (-1, 0, 1, 2)]
        for many in range(4):
            for value in itertools.combinations(sorted(triples), many):
                if many == 3 and sum(triple[2] for triple in value) != 2:
                    continue
                # The upgrade is as dear as the amounts tell, so that just their form decides.
                more = max(0, sum(triple[2] for triple in value) - 2)
                both = (base + base[-1:] * more, value)
                shown = shows_cheapest(PAIR, CHAIN, "ra", "rd", (), both)
                expected = sum(triple[2] for triple in value) == 2 and search.is_flow(PAIR, 3, (), value)
                self.assertIs(shown, expected)
                if shown:
                    accepted.add(value)
        self.assertEqual(len(accepted), 2)

    def test_nodes_that_are_not_adjacent(self):
        best = cheapest(STAR, CHAIN, "ra", "rc", ())
        self.assertEqual(len(best), 4)
        for one, other in itertools.product(search.all_nodes(STAR, 2), repeat=2):
            expected = one < other and search.adjacent(STAR, one, other)
            self.assertIs(shows_cheapest(STAR, CHAIN, "ra", "rc", (), (best, ((one, other, 1),))), expected)

    def test_not_ascending(self):
        prices = (("s", 5),)
        given = (STAR, CHAIN, "ra", "rc", prices)
        both = (cheapest(*given), flow(*given))
        self.assertEqual(len(both[1]), 2)
        self.assertIs(shows_cheapest(*given, both), True)
        self.assertIs(shows_cheapest(*given, (both[0], both[1][::-1])), False)

    def test_above_a_price(self):
        # The sums fit, but at c or at s there would flow more than its price.
        dearer = (("c", "rb"), ("s", "rb"), ("c", "rc"), ("s", "rc"))
        for prices, amount in (((), 2), ((("c", 2),), 3), ((("c", 2), ("s", 2)), 4)):
            triples = ((("c", 1), ("s", 1), amount),)
            paid = search.price("cs", prices) + amount
            self.assertEqual(price_of(dearer, prices), paid)
            self.assertIs(shows_cheapest(PAIR, CHAIN, "ra", "rc", prices, (dearer, triples)), False)

    def test_a_dearer_upgrade_of_as_many_replacements(self):
        prices = (("c", 2), ("s", 1))
        dear = schedule_with(PAIR, CHAIN, ("ra", "rb", "rc"), (("s", 1),))
        cheap = schedule_with(PAIR, CHAIN, ("ra", "rb", "rc"), (("c", 1),))
        triples = flow(PAIR, CHAIN, "ra", "rc", prices)
        self.assertIs(shows_cheapest(PAIR, CHAIN, "ra", "rc", prices, (dear, triples)), False)
        self.assertIs(shows_cheapest(PAIR, CHAIN, "ra", "rc", prices, (cheap, triples)), True)

    def test_start_is_end(self):
        for network in (PAIR, RING, ALONE):
            for prices in ((), (("c", 2),)):
                given = (network, CHAIN, "rb", "rb", prices)
                self.assertIs(shows_cheapest(*given, ((), ())), True)
                for value in variants(((), ())):
                    self.check(*given, value)
        around = (("c", "ra"), ("c", "rb"))
        for value in (((), ((("c", 1), ("s", 1), 1),)), (around, ()), ((("c", "rb"), ("s", "rb")), ())):
            self.check(PAIR, CHAIN, "rb", "rb", (), value)
            self.assertIs(shows_cheapest(PAIR, CHAIN, "rb", "rb", (), value), False)

    def test_any_value(self):
        cases = ((PAIR, "ra", "rc", (("s", 2),)), (RING, "ra", "rc", ()), (ALONE, "ra", "rd", ()),
                 (PAIR, "rd", "rd", ()))
        schedule, triples = cheapest(PAIR, CHAIN, "ra", "rc", ()), flow(PAIR, CHAIN, "ra", "rc", ())
        for value in any_values():
            for network, start, end, prices in cases:
                for given in (value, (value, ()), ((), value), (value, value)):
                    self.check(network, CHAIN, start, end, prices, given)
            parts = ((value,), ((("c", 1), ("s", 1), value),), (((("c", 1)), value, 1),), ((value, ("s", 1), 1),),
                     ((("c", value), ("s", value), 1),), ((("c", 1), ("s", 1), 1), value))
            for part in parts:
                self.check(PAIR, CHAIN, "ra", "rc", (), (schedule, part))
            for given in ((schedule, triples, value), (value, schedule, triples), (schedule, value), (value, triples)):
                self.check(PAIR, CHAIN, "ra", "rc", (), given)

    def test_there_is_no_upgrade(self):
        for network in (PAIR, STAR, RING):
            direct = tuple((name, "rc") for name in network[0])
            for value in [((), ()), (direct, ()), None, [], ((), (), ())]:
                for start, end in (("ra", "rc"), ("rd", "ra")):
                    self.assertIs(shows_cheapest(network, GAP, start, end, (("s", 2),), value), False)

    def test_networks_with_an_odd_cycle(self):
        one_step = (("x", "rb"), ("y", "rb"), ("z", "rb"))
        self.assertIs(shows_cheapest(RING, CHAIN, "ra", "rb", (("y", 4),), (one_step, ())), True)
        self.assertIs(shows_cheapest(RING, CHAIN, "ra", "rb", (("y", 4),), (one_step + one_step[:1], ())), False)
        # No flow has as great a sum as the upgrade costs beyond the prices of all services.
        two_steps = schedule_with(RING, CHAIN, ("ra", "rb", "rc"), (("z", 1),))
        triples = ((("x", 1), ("y", 1), 1),)
        self.assertIs(shows_cheapest(RING, CHAIN, "ra", "rc", (), (two_steps, triples)), False)
        prices = (("x", 2), ("y", 2), ("z", 2))
        around = ((("x", 1), ("y", 1), 1), (("x", 1), ("z", 1), 1), (("y", 1), ("z", 1), 1))
        self.check(RING, CHAIN, "ra", "rc", prices, (two_steps, around))
        # Here one has.
        exact = (("x", 1), ("y", 1), ("z", 2))
        triples = ((("x", 1), ("z", 1), 1), (("y", 1), ("z", 1), 1))
        self.assertIs(shows_cheapest(RING, CHAIN, "ra", "rc", exact, (two_steps, triples)), True)
        self.assertEqual(search.least_prices(RING, CHAIN, "ra", exact)[("rc",) * 3], price_of(two_steps, exact))

    def test_no_two_services_talk(self):
        direct = (("a", "rc"), ("b", "rc"))
        for catalog in (GAP, CHAIN):
            given = (ALONE, catalog, "ra", "rc", (("b", 3),))
            self.assertIs(shows_cheapest(*given, (direct, ())), True)
            self.assertIs(shows_cheapest(*given, (direct[::-1], ())), True)
            self.assertIs(shows_cheapest(*given, (direct[:1] + direct, ())), False)
            self.assertIs(shows_cheapest(*given, (direct[:1] + direct, ((("a", 1), ("b", 1), 1),))), False)


class Calls(unittest.TestCase):
    def test_arguments_by_name_in_another_sequence(self):
        prices = (("k", 1), ("s", 5))
        for function in FUNCTIONS:
            self.assertEqual(function(prices=prices, end="rd", start="ra", catalog=CHAIN, network=STAR),
                             function(STAR, CHAIN, "ra", "rd", prices))
            first, second = ["first"], ["second"]
            check_refused(self, lambda: function(prices=(), end=second, start=first, catalog=CHAIN, network=RING),
                          NoRelease, first)
        both = (cheapest(STAR, CHAIN, "rd", "ra", prices), flow(STAR, CHAIN, "rd", "ra", prices))
        for given, expected in ((prices, True), ((), False)):
            shown = shows_cheapest(value=both, prices=given, end="ra", start="rd", catalog=CHAIN, network=STAR)
            self.assertIs(shown, expected)
        self.assertEqual(price_of(prices=prices, schedule=(("s", "ra"),)), 5)
        self.assertIs(are_prices(value=prices), True)

    def test_arguments_are_not_changed_and_results_are_equal(self):
        given = (two_sides(3, 4), chain(8), "b", "g", tuple(zip("abcdefg", (3, 1, 4, 1, 5, 9, 2))))
        same = copy.deepcopy(given)
        for function in FUNCTIONS:
            self.assertEqual(function(*given), function(*same))
        self.assertEqual(repr(given), repr(same))

    def test_somewhat_beyond_the_limits(self):
        names = tuple("service" + letter * 3 for letter in LETTERS)
        network, catalog = (names, tuple(zip(names, names[1:]))), chain(14)
        prices = tuple((name, 10 ** 30 - 1) for name in names)
        given = (network, catalog, "a", "n", prices)
        self.assertEqual(least_price(*given), (14 + 7 * 12) * (10 ** 30 - 1))
        self.assertEqual(run(network, catalog, ("a",) * 14, cheapest(*given)), ("n",) * 14)
        self.assertIs(shows_cheapest(*given, (cheapest(*given), flow(*given))), True)


if __name__ == "__main__":
    unittest.main()
