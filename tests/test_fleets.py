"""Section 15, and guarantee (g) of section 4."""

import copy
import itertools
import random
import unittest

from gridupgrade.errors import (
    BadSchedule, Blocked, Mixed, NoRelease, NoService, NothingToUndo, NotPossible, NotTwoSided, TooDear, Unreachable,
    UpgradeError,
)
from gridupgrade.fleets import Fleet, PricedFleet, Trial, rehearsed
from gridupgrade.networks import shows_odd_cycle
from gridupgrade.prices import cheapest, least_price
from gridupgrade.upgrades import fewest, upgrade
from tests import search
from tests.values import (
    ALONE, CHAIN, GAP, LETTERS, PAIR, RING, STAR, TWO_WAYS, WITH_LONE, any_values, chain, check_refused, network_of,
    ring, two_sides, variants,
)

CLASSES = (Fleet, PricedFleet)
COSTS = (("k", 1), ("s", 5))
CASES = (
    (PAIR, CHAIN, "ra"), (STAR, CHAIN, "rb"), (RING, CHAIN[:3], "rb"), (ALONE, GAP, "ra"), (WITH_LONE, GAP, "rd"),
    (STAR, TWO_WAYS, "ra"), ((("a",), ()), GAP, "rc"), (ring(4), CHAIN, "rd"),
)


def situation(fleet):
    """Return everything that can be asked of a fleet, but for its calls to undo."""
    found = [fleet.network, fleet.catalog, fleet.state, fleet.made, fleet.log(), len(fleet)]
    if isinstance(fleet, PricedFleet):
        found += [fleet.prices, fleet.budget, fleet.spent]
    return found


def history(fleet):
    """Return the situations to which a fleet comes back by undo, down to the start; the fleet stays as it is."""
    other = fleet.copy()
    found = [situation(other)]
    while True:
        try:
            other.undo()
        except NothingToUndo:
            return found
        found.append(situation(other))


class Examples(unittest.TestCase):
    def test_examples(self):
        fleet = Fleet(PAIR, CHAIN, "ra")
        self.assertIsNone(fleet.replace("c", "rb"))
        self.assertEqual(fleet.state, ("rb", "ra"))
        self.assertEqual(fleet.tried((("s", "rc"),)), ("rb", "rc"))
        self.assertEqual(fleet.made, 1)
        self.assertIsNone(fleet.undo())
        self.assertEqual(fleet.upgrade("rd"), 4)
        self.assertEqual([fleet.state, len(fleet.log()), Fleet.MOST_SERVICES], [("rd", "rd"), 4, 12])
        with self.assertRaises(Blocked) as caught:
            Fleet(PAIR, CHAIN, "ra").replace("c", "rc")
        self.assertEqual(caught.exception.services, ("s",))
        purse = PricedFleet(STAR, CHAIN, "ra", prices=(("s", 5),), budget=9)
        self.assertEqual([rehearsed(purse, len), purse.upgrade("rc"), purse.spent, purse.made], [3, 5, 9, 5])
        with self.assertRaises(TooDear) as caught:
            purse.replace("k", "rb")
        self.assertEqual(caught.exception.price, 1)


class Record:
    """What a fleet must be, kept in the plainest way: a list of the schedules of all calls."""

    def __init__(self, network, catalog, start, prices=None, budget=None):
        self.network, self.catalog, self.start = network, catalog, start
        self.prices, self.budget = prices, budget
        self.calls = []

    def log(self):
        return tuple(replacement for call in self.calls for replacement in call)

    def state(self):
        state = (self.start,) * len(self.network[0])
        for replacement in self.log():
            state = search.state_after(self.network, state, replacement)
        return state

    def spent(self):
        return search.price([service for service, _ in self.log()], self.prices)

    def situation(self):
        log = self.log()
        found = [self.network, self.catalog, self.state(), len(log), log, len(self.network[0])]
        if self.prices is not None:
            found += [self.prices, self.budget, self.spent()]
        return found

    def history(self):
        other = Record(self.network, self.catalog, self.start, self.prices, self.budget)
        found = []
        for many in range(len(self.calls), -1, -1):
            other.calls = self.calls[:many]
            found.append(other.situation())
        return found

    def too_dear(self, price):
        return self.prices is not None and self.budget is not None and self.spent() + price > self.budget

    def replace_error(self, service, release):
        """Return the error that a replacement raises, and what it holds."""
        state = self.state()
        if repr(service) not in [repr(name) for name in self.network[0]]:
            return NoService, service
        if repr(release) not in [repr(name) for name, _ in self.catalog]:
            return NoRelease, release
        running = dict(zip(self.network[0], state))
        refusing = tuple(other for other in self.network[0] if search.talk(self.network, service, other)
                         and not search.fit(self.catalog, release, running[other]))
        if refusing:
            return Blocked, refusing
        price = search.price([service], self.prices or ())
        return (TooDear, price) if self.too_dear(price) else None

    def upgrade_error(self, end):
        """Return the error that an upgrade raises, and what it holds; for NotTwoSided nothing."""
        state = self.state()
        if repr(end) not in [repr(name) for name, _ in self.catalog]:
            return NoRelease, end
        if len(set(state)) > 1:
            return Mixed, state
        if self.network in (RING, ring(5)):
            return NotTwoSided, None
        near = search.distances(self.catalog, state[0])
        if self.network[1] and end not in near:
            return Unreachable, tuple(sorted(near))
        price = self.upgrade_price(end)
        return (TooDear, price) if self.too_dear(price) else None

    def upgrade_price(self, end):
        """Return the least price of an upgrade, or the fewest replacements."""
        least = search.least_prices(self.network, self.catalog, self.state()[0], self.prices or ())
        return least[(end,) * len(self.network[0])]


class Checks(unittest.TestCase):
    def check(self, fleet, record):
        self.assertEqual(situation(fleet), record.situation())
        self.assertEqual([type(found) for found in situation(fleet)], [type(found) for found in record.situation()])

    def check_raised(self, fleet, call, error, held):
        """Check that a call raises the error with what it holds, and changes nothing."""
        before = history(fleet)
        with self.assertRaises(error) as caught:
            call()
        if error is NotTwoSided:
            self.assertIs(shows_odd_cycle(fleet.network, caught.exception.cycle), True)
        else:
            self.assertEqual(list(vars(caught.exception).values()), [held])
        self.assertEqual(history(fleet), before)

    def replace(self, fleet, record, service, release):
        wrong = record.replace_error(service, release)
        if wrong:
            self.check_raised(fleet, lambda: fleet.replace(service, release), *wrong)
        else:
            self.assertIsNone(fleet.replace(service, release))
            record.calls.append(((service, release),))
        self.check(fleet, record)

    def upgrade(self, fleet, record, end):
        wrong = record.upgrade_error(end)
        if wrong:
            self.check_raised(fleet, lambda: fleet.upgrade(end), *wrong)
        else:
            start, price, before = record.state()[0], record.upgrade_price(end), fleet.log()
            many = fleet.upgrade(end)
            made = fleet.log()[len(before):]
            self.assertIs(type(many), int)
            self.assertEqual(many, len(made))
            self.assertTrue(search.is_upgrade(record.network, record.catalog, start, end, made))
            self.assertEqual(search.price([service for service, _ in made], record.prices or ()), price)
            record.calls.append(made)
        self.check(fleet, record)

    def undo(self, fleet, record):
        if record.calls:
            self.assertIsNone(fleet.undo())
            record.calls.pop()
        else:
            with self.assertRaises(NothingToUndo) as caught:
                fleet.undo()
            self.assertEqual(vars(caught.exception), {})
        self.check(fleet, record)

    def act(self, fleet, record, chance):
        """Make a call by chance, beside the record."""
        names = [name for name, _ in record.catalog]
        word = chance.choice(("replace",) * 8 + ("undo",) * 3 + ("upgrade",) * 3)
        if word == "undo":
            self.undo(fleet, record)
        elif word == "upgrade":
            self.upgrade(fleet, record, chance.choice(names + ["zz"]))
        else:
            self.replace(fleet, record, chance.choice(record.network[0] + ("zz",)), chance.choice(names + ["zz"]))


class BesideTheRecord(Checks):
    def pairs(self, seed):
        """Return fleets of both classes with their records."""
        chance = random.Random(seed)
        for network, catalog, start in CASES:
            yield Fleet(network, catalog, start), Record(network, catalog, start)
            for budget in (None, 0, 6, 40):
                prices = tuple((name, chance.choice((1, 2, 3, 9))) for name in network[0][chance.randrange(2):])
                given = {"prices": prices, "budget": budget}
                yield PricedFleet(network, catalog, start, **given), Record(network, catalog, start, **given)

    def test_call_by_call(self):
        for seed in range(4):
            chance = random.Random(seed)
            for fleet, record in self.pairs(seed):
                self.check(fleet, record)
                for _ in range(40):
                    self.act(fleet, record, chance)
                self.assertEqual(history(fleet), record.history())
                while record.calls:
                    self.undo(fleet, record)
                self.undo(fleet, record)

    def test_always_in_a_valid_state_and_within_the_budget(self):
        chance = random.Random(7)
        for network, catalog, start in CASES:
            for budget in (0, 3, 8):
                fleet = PricedFleet(network, catalog, start, prices=((network[0][0], 2),), budget=budget)
                record = Record(network, catalog, start, fleet.prices, budget)
                for _ in range(40):
                    self.act(fleet, record, chance)
                    self.assertEqual(search.wrong_talks(network, catalog, fleet.state), [])
                    self.assertLessEqual(fleet.spent, budget)

    def test_a_copy_is_led_on_by_its_own(self):
        for seed in range(3):
            chance = random.Random(100 + seed)
            for fleet, record in self.pairs(seed):
                for _ in range(12):
                    self.act(fleet, record, chance)
                other, before = fleet.copy(), history(fleet)
                self.assertIs(type(other), type(fleet))
                self.assertEqual(other, fleet)
                self.assertEqual(history(other), before)
                other_record = copy.deepcopy(record)
                for _ in range(12):
                    self.act(other, other_record, chance)
                self.check(fleet, record)
                self.assertEqual(history(fleet), before)
                after = history(other)
                for _ in range(12):
                    self.act(fleet, record, chance)
                self.check(other, other_record)
                self.assertEqual(history(other), after)
                self.assertEqual(history(fleet), record.history())

    def test_trials(self):
        for seed in range(3):
            chance = random.Random(200 + seed)
            for fleet, record in self.pairs(seed):
                for _ in range(10):
                    self.act(fleet, record, chance)
                before = history(fleet)
                with Trial(fleet) as held:
                    self.assertIs(held, fleet)
                    inside = copy.deepcopy(record)
                    for _ in range(10):
                        self.act(fleet, inside, chance)
                    self.check(fleet, inside)
                self.assertEqual(history(fleet), before)
                self.check(fleet, record)
                for _ in range(5):
                    self.act(fleet, record, chance)


class AtTheStart(unittest.TestCase):
    def test_all_services_run_start(self):
        for network, catalog, _ in CASES:
            for start, _ in catalog:
                for make in CLASSES:
                    fleet = make(network, catalog, start)
                    many = len(network[0])
                    self.assertEqual(situation(fleet)[:6], [network, catalog, (start,) * many, 0, (), many])
                    self.assertRaises(NothingToUndo, fleet.undo)

    def test_no_release(self):
        for value in any_values() + ["c", "re"]:
            for make in CLASSES:
                check_refused(self, lambda: make(PAIR, CHAIN, value), NoRelease, value)

    def test_most_services(self):
        for found in (Fleet.MOST_SERVICES, PricedFleet.MOST_SERVICES, Fleet(PAIR, CHAIN, "ra").MOST_SERVICES):
            self.assertEqual(found, 12)
            self.assertIs(type(found), int)

    def test_given_prices_and_budget(self):
        fleet = PricedFleet(PAIR, CHAIN, "ra")
        self.assertEqual([fleet.prices, fleet.budget, fleet.spent], [(), None, 0])
        for prices in ((), COSTS, (("zz", 10 ** 6),)):
            for budget in (None, 0, 1, 10 ** 30 - 1):
                fleet = PricedFleet(STAR, CHAIN, "ra", prices=prices, budget=budget)
                self.assertEqual([fleet.prices, fleet.budget, fleet.spent], [prices, budget, 0])
                fleet = PricedFleet(budget=budget, prices=prices, start="ra", catalog=CHAIN, network=STAR)
                self.assertEqual([fleet.prices, fleet.budget, fleet.spent], [prices, budget, 0])

    def test_prices_and_budget_are_given_by_name(self):
        self.assertRaises(TypeError, PricedFleet, PAIR, CHAIN, "ra", ())
        self.assertRaises(TypeError, PricedFleet, PAIR, CHAIN, "ra", (), None)

    def test_a_priced_fleet_is_a_fleet(self):
        self.assertIs(PricedFleet.__bases__[0], Fleet)
        self.assertIsInstance(PricedFleet(PAIR, CHAIN, "ra"), Fleet)

    def test_properties_cannot_be_set(self):
        for make, names in ((Fleet, ()), (PricedFleet, ("prices", "budget", "spent"))):
            fleet = make(PAIR, CHAIN, "ra")
            for name in ("network", "catalog", "state", "made") + names:
                before = getattr(fleet, name)
                for value in (before, None, ()):
                    self.assertRaises(AttributeError, setattr, fleet, name, value)
                self.assertRaises(AttributeError, delattr, fleet, name)
                self.assertEqual(getattr(fleet, name), before)


class Replace(Checks):
    def test_all_values_in_sequence(self):
        for make in CLASSES:
            fleet = make(PAIR, CHAIN, "ra")
            for value in any_values():
                other = ["other"]
                check_refused(self, lambda: fleet.replace(value, other), NoService, value)
                check_refused(self, lambda: fleet.replace(value, "rb"), NoService, value)
                check_refused(self, lambda: fleet.replace("c", value), NoRelease, value)
            check_refused(self, lambda: fleet.replace("rb", "c"), NoService, "rb")
            check_refused(self, lambda: fleet.replace("c", "s"), NoRelease, "s")
            self.assertEqual(situation(fleet)[2:5], [("ra", "ra"), 0, ()])

    def test_blocked(self):
        for make in CLASSES:
            fleet = make(STAR, CHAIN, "ra")
            self.check_raised(fleet, lambda: fleet.replace("s", "rc"), Blocked, ("k", "m"))
            fleet.replace("k", "rb")
            self.check_raised(fleet, lambda: fleet.replace("s", "rc"), Blocked, ("m",))
            self.check_raised(fleet, lambda: fleet.replace("s", "rd"), Blocked, ("k", "m"))
            self.check_raised(fleet, lambda: fleet.replace("k", "rc"), Blocked, ("s",))

    def test_the_release_that_runs_already(self):
        for make in CLASSES:
            fleet = make(PAIR, CHAIN, "rb")
            for many in (1, 2, 3):
                self.assertIsNone(fleet.replace("c", "rb"))
                self.assertEqual(situation(fleet)[2:5], [("rb", "rb"), many, (("c", "rb"),) * many])
            fleet.undo()
            self.assertEqual(fleet.made, 2)
        purse = PricedFleet(PAIR, CHAIN, "rb", prices=(("c", 4),), budget=7)
        purse.replace("c", "rb")
        self.check_raised(purse, lambda: purse.replace("c", "rb"), TooDear, 4)

    def test_logs_longer_than_a_schedule(self):
        for make in CLASSES:
            fleet = make(PAIR, CHAIN, "ra")
            for turn in range(401):
                fleet.replace("c", "rb" if turn % 2 == 0 else "ra")
            self.assertEqual([fleet.made, fleet.state], [401, ("rb", "ra")])
            self.assertEqual(fleet.log(), (("c", "rb"), ("c", "ra")) * 200 + (("c", "rb"),))
            fleet.replace("s", "rb")
            self.assertEqual(fleet.upgrade("rd"), 3)
            self.assertEqual([fleet.made, fleet.copy().log() == fleet.log()], [405, True])
            for many in range(402, -1, -1):
                fleet.undo()
                self.assertEqual(fleet.made, many)
            self.assertRaises(NothingToUndo, fleet.undo)


class Upgrade(Checks):
    def test_errors_in_sequence(self):
        for make in CLASSES:
            for value in any_values() + ["rb", "s"]:
                for network in (PAIR, RING):
                    fleet = make(network, GAP, "ra")
                    check_refused(self, lambda: fleet.upgrade(value), NoRelease, value)
            fleet = make(RING, CHAIN, "ra")
            fleet.replace("x", "rb")
            self.check_raised(fleet, lambda: fleet.upgrade("re"), NoRelease, "re")
            self.check_raised(fleet, lambda: fleet.upgrade("rb"), Mixed, ("rb", "ra", "ra"))
            fleet = make(WITH_LONE, GAP, "rc")
            fleet.replace("b", "ra")
            self.check_raised(fleet, lambda: fleet.upgrade("ra"), Mixed, ("rc", "ra", "rc", "rc"))
            fleet = make(RING, GAP, "rc")
            for end in ("rc", "rd", "ra"):
                self.check_raised(fleet, lambda: fleet.upgrade(end), NotTwoSided, None)
            fleet = make(PAIR, GAP, "rc")
            self.check_raised(fleet, lambda: fleet.upgrade("ra"), Unreachable, ("rc", "rd"))

    def test_an_upgrade_without_replacements_and_its_undo(self):
        for make in CLASSES:
            for network in (PAIR, ALONE, WITH_LONE):
                fleet = make(network, CHAIN, "rb")
                self.assertEqual(fleet.upgrade("rb"), 0)
                self.assertEqual(situation(fleet)[2:5], [("rb",) * len(network[0]), 0, ()])
                fleet.replace(network[0][0], "rc")
                fleet.undo()
                self.assertIsNone(fleet.undo())
                self.assertRaises(NothingToUndo, fleet.undo)
                fleet.upgrade("rb")
                fleet.upgrade("rb")
                fleet.upgrade("rc")
                for many in (3, 2, 1):
                    self.assertEqual(len(history(fleet)), many + 1)
                    fleet.undo()
                self.assertRaises(NothingToUndo, fleet.undo)

    def test_the_same_upgrade_whenever_the_situation_is_the_same(self):
        for network in (PAIR, STAR, WITH_LONE, ring(8), two_sides(3, 4)):
            one, other = Fleet(network, chain(6), "a"), Fleet(copy.deepcopy(network), chain(6), "c")
            other.upgrade("f")
            other.upgrade("a")
            before = other.made
            one.upgrade("f")
            other.upgrade("f")
            self.assertEqual(one.log(), other.log()[before:])
            priced = PricedFleet(network, chain(6), "a", prices=((network[0][0], 5),))
            again = priced.copy()
            priced.upgrade("e")
            again.upgrade("e")
            self.assertEqual(priced.log(), again.log())

    def test_fewest_and_cheapest(self):
        for network in (STAR, WITH_LONE, two_sides(6, 6), ALONE):
            for start, end in (("a", "l"), ("l", "c"), ("b", "c")):
                fleet = Fleet(network, chain(12), start)
                self.assertEqual(fleet.upgrade(end), fewest(network, chain(12), start, end))
                self.assertEqual(fleet.state, (end,) * len(network[0]))
                prices = tuple(zip(network[0], (9, 2, 6, 5, 3, 5, 8, 9, 7, 9, 3, 2)))
                purse = PricedFleet(network, chain(12), start, prices=prices)
                many = purse.upgrade(end)
                self.assertEqual(purse.spent, least_price(network, chain(12), start, end, prices))
                self.assertEqual([purse.state, purse.made], [(end,) * len(network[0]), many])

    def test_no_two_services_talk(self):
        for make in CLASSES:
            fleet = make(ALONE, GAP, "ra")
            self.assertEqual([fleet.upgrade("rd"), fleet.state, fleet.made], [2, ("rd", "rd"), 2])


class Tried(Checks):
    def test_state_after_and_nothing_changed(self):
        for make in CLASSES:
            fleet = make(PAIR, CHAIN, "ra")
            fleet.replace("c", "rb")
            before = history(fleet)
            self.assertEqual(fleet.tried(()), ("rb", "ra"))
            self.assertEqual(fleet.tried((("s", "rc"), ("c", "rd"))), ("rd", "rc"))
            self.assertEqual(fleet.tried((("c", "ra"), ("c", "rb")) * 200), ("rb", "ra"))
            self.assertEqual(history(fleet), before)

    def test_raises_as_run(self):
        for make in CLASSES:
            fleet = make(PAIR, CHAIN, "ra")
            fleet.replace("c", "rb")
            before = history(fleet)
            for value in any_values():
                if repr(value) != "()":
                    check_refused(self, lambda: fleet.tried(value), BadSchedule, value)
                for given in ((value,), (("c", value),), ((value, "ra"),), (("c", "rd"), value)):
                    check_refused(self, lambda: fleet.tried(given), BadSchedule, given)
            self.check_raised(fleet, lambda: fleet.tried((("s", "rb"), ("c", "rd"))), NotPossible, 1)
            long = (("c", "rb"),) * 401
            check_refused(self, lambda: fleet.tried(long), BadSchedule, long)
            self.assertEqual(history(fleet), before)

    def test_variants(self):
        fleet = Fleet(PAIR, CHAIN, "ra")
        for value in variants((("c", "rb"), ("s", "rc"))):
            if search.has_form_of_schedule(PAIR, CHAIN, value):
                states = search.steps_of(PAIR, CHAIN, ("ra", "ra"), value)
                if search.wrong_talks(PAIR, CHAIN, states[-1]):
                    self.assertRaises(NotPossible, fleet.tried, value)
                else:
                    self.assertEqual(fleet.tried(value), states[-1])
            else:
                check_refused(self, lambda: fleet.tried(value), BadSchedule, value)

    def test_the_budget_does_not_matter(self):
        purse = PricedFleet(PAIR, CHAIN, "ra", budget=0)
        self.assertEqual(purse.tried((("c", "rb"), ("s", "rb"))), ("rb", "rb"))
        self.assertEqual(purse.spent, 0)


class Budgets(Checks):
    def test_just_enough_and_one_less_for_a_replacement(self):
        for budget, made in ((5, 1), (6, 1), (4, 0), (0, 0), (9, 1), (10, 2), (None, 3)):
            purse = PricedFleet(STAR, CHAIN, "ra", prices=COSTS, budget=budget)
            for _ in range(made):
                self.assertIsNone(purse.replace("s", "rb"))
            self.assertEqual([purse.made, purse.spent], [made, 5 * made])
            if budget is not None:
                self.check_raised(purse, lambda: purse.replace("s", "rb"), TooDear, 5)

    def test_just_enough_and_one_less_for_an_upgrade(self):
        least = least_price(STAR, CHAIN, "ra", "rd", COSTS)
        for spare in (0, 1, least - 1):
            purse = PricedFleet(STAR, CHAIN, "ra", prices=COSTS, budget=least + spare)
            purse.upgrade("rd")
            self.assertEqual(purse.spent, least)
            self.check_raised(purse, lambda: purse.upgrade("ra"), TooDear, least)
            purse.undo()
            self.assertEqual(purse.spent, 0)
        for budget in (least - 1, 1, 0):
            purse = PricedFleet(STAR, CHAIN, "ra", prices=COSTS, budget=budget)
            self.check_raised(purse, lambda: purse.upgrade("rd"), TooDear, least)
        purse = PricedFleet(STAR, CHAIN, "ra", prices=COSTS, budget=least + 5)
        purse.replace("s", "ra")
        purse.upgrade("rd")
        self.assertEqual(purse.spent, least + 5)

    def test_nothing_costs_nothing(self):
        for prices in ((), COSTS):
            purse = PricedFleet(STAR, CHAIN, "ra", prices=prices, budget=0)
            self.assertEqual([purse.upgrade("ra"), purse.spent], [0, 0])
            self.check_raised(purse, lambda: purse.replace("k", "ra"), TooDear, 1)
            purse.undo()
            self.assertRaises(NothingToUndo, purse.undo)

    def test_undo_brings_back_what_was_spent(self):
        purse = PricedFleet(STAR, CHAIN, "ra", prices=COSTS, budget=7)
        purse.replace("s", "rb")
        purse.replace("k", "rb")
        purse.replace("m", "rb")
        self.check_raised(purse, lambda: purse.replace("m", "ra"), TooDear, 1)
        for spent in (6, 5, 0):
            purse.undo()
            self.assertEqual(purse.spent, spent)
        purse.replace("s", "rb")
        self.assertEqual(purse.spent, 5)

    def test_too_dear_comes_last(self):
        purse = PricedFleet(STAR, CHAIN, "ra", prices=COSTS, budget=0)
        self.check_raised(purse, lambda: purse.replace("q", "rd"), NoService, "q")
        self.check_raised(purse, lambda: purse.replace("s", "re"), NoRelease, "re")
        self.check_raised(purse, lambda: purse.replace("s", "rc"), Blocked, ("k", "m"))
        self.check_raised(purse, lambda: purse.replace("s", "rb"), TooDear, 5)
        self.check_raised(purse, lambda: purse.upgrade("re"), NoRelease, "re")
        self.check_raised(purse, lambda: purse.upgrade("rc"), TooDear, 9)
        mixed = PricedFleet(STAR, CHAIN, "ra", prices=COSTS, budget=5)
        mixed.replace("s", "rb")
        self.check_raised(mixed, lambda: mixed.upgrade("rb"), Mixed, ("ra", "ra", "rb"))
        around = PricedFleet(RING, GAP, "rc", budget=0)
        self.check_raised(around, lambda: around.upgrade("ra"), NotTwoSided, None)
        apart = PricedFleet(PAIR, GAP, "rc", budget=0)
        self.check_raised(apart, lambda: apart.upgrade("ra"), Unreachable, ("rc", "rd"))

    def test_without_a_budget(self):
        purse = PricedFleet(STAR, CHAIN, "ra", prices=(("s", 10 ** 6),))
        for turn in range(50):
            purse.replace("s", ("rb", "ra")[turn % 2])
        self.assertEqual([purse.spent, purse.budget], [50 * 10 ** 6, None])

    def test_the_price_of_no_upgrade_but_the_least(self):
        # The fewest replacements are dearer than the budget, the least price is not.
        prices = (("k", 1), ("m", 1), ("s", 9))
        short = upgrade(STAR, CHAIN, "ra", "rc")
        self.assertEqual(search.price([service for service, _ in short], prices), 20)
        self.assertEqual(cheapest(STAR, CHAIN, "ra", "rc", prices), (("k", "rb"), ("m", "rb"), ("s", "rc"), ("k", "rc"),
                                                                      ("m", "rc")))
        purse = PricedFleet(STAR, CHAIN, "ra", prices=prices, budget=13)
        self.assertEqual([purse.upgrade("rc"), purse.spent], [5, 13])


class Copies(Checks):
    def test_the_same_class_and_the_same_calls_to_undo(self):
        for make in CLASSES:
            fleet = make(STAR, CHAIN, "ra")
            fleet.upgrade("ra")
            fleet.replace("s", "rb")
            fleet.replace("s", "ra")
            fleet.upgrade("rc")
            for other in (fleet.copy(), fleet.copy().copy()):
                self.assertIs(type(other), make)
                self.assertIsNot(other, fleet)
                self.assertEqual(history(other), history(fleet))
                self.assertEqual(len(history(other)), 5)

    def test_the_same_prices_and_budget(self):
        purse = PricedFleet(STAR, CHAIN, "ra", prices=COSTS, budget=10)
        purse.replace("s", "rb")
        other = purse.copy()
        self.assertEqual([other.prices, other.budget, other.spent], [COSTS, 10, 5])
        other.replace("s", "ra")
        self.assertEqual([other.spent, purse.spent], [10, 5])
        self.check_raised(other, lambda: other.replace("k", "ra"), TooDear, 1)
        purse.undo()
        self.assertEqual([other.spent, purse.spent], [10, 0])

    def test_each_one_is_led_on_by_its_own(self):
        for make in CLASSES:
            fleet = make(PAIR, CHAIN, "ra")
            fleet.replace("c", "rb")
            other = fleet.copy()
            fleet.undo()
            self.assertEqual([fleet.state, other.state], [("ra", "ra"), ("rb", "ra")])
            other.undo()
            other.upgrade("rd")
            self.assertEqual([fleet.state, other.state], [("ra", "ra"), ("rd", "rd")])
            self.assertRaises(NothingToUndo, fleet.undo)

    def test_a_copy_of_a_mixed_state(self):
        fleet = Fleet(WITH_LONE, GAP, "ra")
        fleet.replace("b", "rd")
        other = fleet.copy()
        self.assertEqual([other.state, other == fleet], [("ra", "rd", "ra", "ra"), True])
        other.replace("b", "ra")
        self.assertNotEqual(other, fleet)


class Equality(unittest.TestCase):
    def check(self, one, other, expected):
        for left, right in ((one, other), (other, one)):
            self.assertIs(left == right, expected)
            self.assertIs(left != right, not expected)

    def test_between_both_classes_with_other_prices(self):
        fleets = [Fleet(STAR, CHAIN, "ra"), PricedFleet(STAR, CHAIN, "ra"),
                  PricedFleet(STAR, CHAIN, "ra", prices=COSTS, budget=20),
                  PricedFleet(copy.deepcopy(STAR), copy.deepcopy(CHAIN), "ra", prices=(("m", 2),))]
        for one, other in itertools.product(fleets, repeat=2):
            self.check(one, other, True)
        fleets[0].replace("s", "rb")
        for other in fleets[1:]:
            self.check(fleets[0], other, False)
            other.replace("s", "rb")
            self.check(fleets[0], other, True)

    def test_the_calls_do_not_matter_but_the_log_does(self):
        one, other = Fleet(ALONE, CHAIN, "ra"), Fleet(ALONE, CHAIN, "ra")
        one.upgrade("rb")
        for service, release in one.log():
            other.replace(service, release)
        self.check(one, other, True)
        one.upgrade("rb")
        self.check(one, other, True)
        one.undo()
        one.undo()
        self.check(one, other, False)

    def test_another_log_with_the_same_state(self):
        one, other = Fleet(PAIR, CHAIN, "ra"), Fleet(PAIR, CHAIN, "ra")
        one.replace("c", "ra")
        self.check(one, other, False)
        other.replace("s", "ra")
        self.check(one, other, False)
        one.replace("s", "ra")
        other.replace("c", "ra")
        self.check(one, other, False)

    def test_another_start(self):
        self.check(Fleet(PAIR, CHAIN, "ra"), Fleet(PAIR, CHAIN, "rb"), False)
        one, other = Fleet((("a",), ()), CHAIN, "ra"), Fleet((("a",), ()), CHAIN, "rc")
        self.check(one, other, False)
        one.replace("a", "rd")
        other.replace("a", "rd")
        self.check(one, other, True)
        one.undo()
        self.check(one, other, False)

    def test_another_network_or_catalog(self):
        self.check(Fleet(PAIR, CHAIN, "ra"), Fleet((("c", "s"), ()), CHAIN, "ra"), False)
        self.check(Fleet(PAIR, CHAIN, "ra"), Fleet((("c", "t"), (("c", "t"),)), CHAIN, "ra"), False)
        self.check(Fleet(PAIR, CHAIN, "ra"), Fleet(PAIR, CHAIN[:3], "ra"), False)
        self.check(Fleet(PAIR, CHAIN, "ra"), PricedFleet(PAIR, (("ra", (1, 2)),), "ra"), False)

    def test_a_fleet_equals_nothing_else(self):
        class Everything:
            def __eq__(self, other):
                return True

        for make in CLASSES:
            fleet = make(PAIR, CHAIN, "ra")
            for value in any_values() + [PAIR, CHAIN, ("ra", "ra"), 2, Fleet, PricedFleet, Trial(fleet), fleet.state]:
                self.check(fleet, value, False)
            self.assertIs(fleet == Everything(), False)

    def test_length(self):
        for make in CLASSES:
            for network in (PAIR, STAR, ALONE, two_sides(6, 6), (("a",), ())):
                fleet = make(network, chain(3), "a")
                self.assertEqual(len(fleet), len(network[0]))
                fleet.replace(network[0][0], "b")
                self.assertEqual(len(fleet), len(network[0]))


class Stop(Exception):
    """An error that is none of the package."""


class Trials(Checks):
    def fleets(self):
        """Return fleets of both classes with three calls to undo, one of which made no replacement."""
        for make in (Fleet, lambda *given: PricedFleet(*given, prices=COSTS, budget=60)):
            fleet = make(STAR, CHAIN, "ra")
            fleet.replace("k", "rb")
            fleet.replace("k", "ra")
            fleet.upgrade("ra")
            yield fleet

    def blocks(self):
        """Return functions that lead a fleet on, back, or both."""
        def nothing(fleet):
            pass

        def replaces(fleet):
            fleet.replace("s", "rb")

        def upgrades(fleet):
            fleet.upgrade("rc")
            fleet.upgrade("rd")

        def undoes_more_than_it_made(fleet):
            fleet.replace("s", "rb")
            fleet.undo()
            fleet.undo()
            fleet.undo()

        def undoes_all_and_goes_on(fleet):
            for _ in range(3):
                fleet.undo()
            fleet.upgrade("rd")
            fleet.undo()
            fleet.replace("m", "rb")

        return [nothing, replaces, upgrades, undoes_more_than_it_made, undoes_all_and_goes_on]

    def test_blocks(self):
        for fleet in self.fleets():
            before = history(fleet)
            self.assertEqual(len(before), 4)
            for block in self.blocks():
                with Trial(fleet) as held:
                    self.assertIs(held, fleet)
                    block(held)
                self.assertEqual(history(fleet), before)

    def test_blocks_that_end_by_an_exception(self):
        for fleet in self.fleets():
            before = history(fleet)
            errors = (Stop("stop"), NothingToUndo(), BadSchedule(()), ValueError(), KeyError(1), StopIteration(),
                      KeyboardInterrupt(), SystemExit(), GeneratorExit())
            for block, error in itertools.product(self.blocks(), errors):
                with self.assertRaises(type(error)) as caught:
                    with Trial(fleet):
                        block(fleet)
                        raise error
                self.assertIs(caught.exception, error)
                self.assertEqual(history(fleet), before)

    def test_errors_of_the_methods(self):
        for fleet in self.fleets():
            before = history(fleet)
            calls = (
                (NoService, lambda: fleet.replace("q", "ra")), (Blocked, lambda: fleet.replace("k", "rd")),
                (NoRelease, lambda: fleet.upgrade("re")), (NothingToUndo, lambda: [fleet.undo() for _ in range(9)]),
            )
            for error, call in calls:
                with self.assertRaises(error):
                    with Trial(fleet) as held:
                        held.replace("s", "rb")
                        call()
                self.assertEqual(history(fleet), before)

    def test_one_within_another(self):
        for fleet in self.fleets():
            before = history(fleet)
            for outer, inner in itertools.product(self.blocks(), repeat=2):
                with Trial(fleet):
                    outer(fleet)
                    between = history(fleet)
                    try:
                        with Trial(fleet):
                            inner(fleet)
                    except UpgradeError:
                        pass
                    self.assertEqual(history(fleet), between)
                    with self.assertRaises(Stop):
                        with Trial(fleet):
                            fleet.upgrade("ra") if len(set(fleet.state)) == 1 else fleet.undo()
                            raise Stop
                    self.assertEqual(history(fleet), between)
                self.assertEqual(history(fleet), before)

    def test_one_trial_for_several_blocks(self):
        for fleet in self.fleets():
            trial, before = Trial(fleet), history(fleet)
            with trial:
                fleet.replace("s", "rb")
                between = history(fleet)
                with trial:
                    fleet.undo()
                    fleet.undo()
                self.assertEqual(history(fleet), between)
                fleet.replace("s", "ra")
            self.assertEqual(history(fleet), before)
            fleet.replace("m", "rb")
            later = history(fleet)
            with trial as held:
                held.undo()
            self.assertEqual(history(fleet), later)

    def test_a_trial_does_not_change_anything_before_the_block(self):
        for fleet in self.fleets():
            trial = Trial(fleet)
            fleet.replace("s", "rb")
            before = history(fleet)
            with trial:
                fleet.undo()
            self.assertEqual(history(fleet), before)

    def test_a_copy_made_in_a_block_stays(self):
        for fleet in self.fleets():
            before = history(fleet)
            with Trial(fleet):
                fleet.upgrade("rd")
                other = fleet.copy()
                inside = history(fleet)
            self.assertEqual(history(other), inside)
            self.assertEqual(history(fleet), before)

    def test_rehearsed(self):
        for fleet in self.fleets():
            before = history(fleet)
            for block in self.blocks():
                self.assertIsNone(rehearsed(fleet, block))
                self.assertEqual(history(fleet), before)
            found = ["found"]
            self.assertIs(rehearsed(fleet, lambda given: found), found)
            self.assertIs(rehearsed(fleet, lambda given: given), fleet)
            schedule = upgrade(STAR, CHAIN, "ra", "rd")
            if type(fleet) is PricedFleet:
                schedule = cheapest(STAR, CHAIN, "ra", "rd", COSTS)
            self.assertEqual(rehearsed(fleet, lambda given: (given.upgrade("rd"), given.log())), (len(schedule),
                             fleet.log() + schedule))
            self.assertEqual(history(fleet), before)
            self.assertEqual(rehearsed(fleet, len), 3)
            self.assertEqual(rehearsed(fleet, lambda given: rehearsed(given, type(given).undo)), None)
            self.assertEqual(history(fleet), before)

    def test_rehearsed_with_an_exception(self):
        for fleet in self.fleets():
            before = history(fleet)
            error = Stop("stop")

            def steps(given):
                given.upgrade("rd")
                raise error

            with self.assertRaises(Stop) as caught:
                rehearsed(fleet, steps)
            self.assertIs(caught.exception, error)
            self.assertEqual(history(fleet), before)
            self.assertRaises(TypeError, rehearsed, fleet, lambda: None)
            self.assertRaises(NoService, rehearsed, fleet, lambda given: given.replace(1, 2))
            self.assertEqual(history(fleet), before)


class Calls(unittest.TestCase):
    def test_arguments_by_name_in_another_sequence(self):
        for make in CLASSES:
            fleet = make(start="ra", catalog=CHAIN, network=STAR)
            self.assertIsNone(fleet.replace(release="rb", service="s"))
            self.assertEqual(fleet.log(), (("s", "rb"),))
            self.assertEqual(fleet.tried(schedule=(("k", "rb"),)), ("rb", "ra", "rb"))
            fleet.undo()
            self.assertEqual(fleet.upgrade(end="rb"), 3)
            first, second = ["first"], ["second"]
            check_refused(self, lambda: fleet.replace(release=second, service=first), NoService, first)
            with Trial(fleet=fleet) as held:
                held.undo()
            self.assertEqual(rehearsed(steps=len, fleet=fleet), 3)
            self.assertEqual(fleet.made, 3)

    def test_arguments_are_not_changed(self):
        given = (STAR, CHAIN, COSTS)
        same = copy.deepcopy(given)
        purse = PricedFleet(given[0], given[1], "ra", prices=given[2], budget=100)
        purse.upgrade("rd")
        purse.undo()
        self.assertIs(purse.network, STAR)
        self.assertIs(purse.catalog, CHAIN)
        self.assertIs(purse.prices, COSTS)
        self.assertEqual(repr(given), repr(same))

    def test_results_stay_as_they_are(self):
        fleet = Fleet(PAIR, CHAIN, "ra")
        kept = [fleet.state, fleet.log(), fleet.made]
        fleet.upgrade("rd")
        self.assertEqual(kept, [("ra", "ra"), (), 0])
        self.assertEqual([type(fleet.state), type(fleet.log())], [tuple, tuple])
        log = fleet.log()
        fleet.undo()
        self.assertEqual(len(log), 4)

    def test_somewhat_beyond_the_limits(self):
        names = tuple("service" + letter * 3 for letter in LETTERS)
        network = (names, tuple(zip(names, names[1:])))
        for make in CLASSES:
            fleet = make(network, chain(14), "a")
            self.assertEqual(fleet.upgrade("n"), 14 + 7 * 12)
            self.assertEqual([len(fleet), fleet.state], [14, ("n",) * 14])

    def test_lone_services(self):
        network = network_of("abc", "ab")
        for make in CLASSES:
            fleet = make(network, GAP, "ra")
            fleet.replace("c", "rd")
            fleet.replace("c", "rc")
            self.assertEqual([fleet.state, fleet.made], [("ra", "ra", "rc"), 2])


if __name__ == "__main__":
    unittest.main()
