"""Section 17."""

import itertools
import random
import re
import unittest

from gridupgrade.catalogs import path
from gridupgrade.desk import Desk
from gridupgrade.errors import (
    BadLine, BadSchedule, BadText, Blocked, Mixed, NoFleet, NoRelease, NoService, NothingToUndo, NotPossible,
    NotTwoSided, Unreachable, UpgradeError,
)
from gridupgrade.fleets import Fleet
from gridupgrade.networks import shows_odd_cycle, sides
from gridupgrade.states import blockers
from gridupgrade.texts import format_catalog, format_network, format_schedule
from gridupgrade.upgrades import fewest
from tests.values import (
    ALONE, CHAIN, GAP, PAIR, RING, STAR, WITH_LONE, any_values, chain, check_refused, network_of, ring,
    two_sides,
)

CASES = ((PAIR, CHAIN), (STAR, CHAIN), (RING, CHAIN), (ALONE, GAP), (WITH_LONE, GAP), (ring(4), CHAIN[:3]))
NAME = "[a-z]{1,8}"
FORMS = (
    f"start {NAME}", f"replace {NAME} {NAME}", "undo", f"upgrade {NAME}", "state", "log", f"blockers {NAME} {NAME}",
    f"try (-|{NAME}>{NAME}(, {NAME}>{NAME}){{0,399}})", f"fewest {NAME} {NAME}", f"path {NAME} {NAME}", "sides",
)
WITH_FLEET = ("replace", "undo", "upgrade", "state", "log", "blockers", "try")


def desk_for(network, catalog):
    return Desk(format_network(network), format_catalog(catalog))


def has_form(line):
    """Return whether any value is a line of one of the forms."""
    return type(line) is str and any(re.fullmatch(form, line) for form in FORMS)


def check_bad_line(case, desk, line):
    check_refused(case, lambda: desk.say(line), BadLine, line, "line")


def outcome(call):
    """Return what a call returns, or the kind of its error with what that holds."""
    try:
        return call()
    except UpgradeError as error:
        return type(error), vars(error)


class Plain:
    """What a desk must do, by the functions and by a fleet."""

    def __init__(self, network, catalog):
        self.network, self.catalog, self.fleet = network, catalog, None

    def say(self, line):
        if not has_form(line):
            raise BadLine(line)
        word = line.split()[0]
        given = line.split()[1:]
        if word in WITH_FLEET and self.fleet is None:
            raise NoFleet()
        if word == "start":
            self.fleet = Fleet(self.network, self.catalog, given[0])
        elif word == "replace":
            self.fleet.replace(*given)
        elif word == "undo":
            self.fleet.undo()
        elif word == "upgrade":
            return str(self.fleet.upgrade(given[0]))
        elif word == "state":
            return " ".join(self.fleet.state)
        elif word == "log":
            return format_schedule(self.fleet.log())
        elif word == "blockers":
            found = blockers(self.network, self.catalog, self.fleet.state, *given)
            return " ".join(found) if found else "-"
        elif word == "try":
            parts = [] if line == "try -" else line[len("try "):].split(", ")
            return " ".join(self.fleet.tried(tuple(tuple(part.split(">")) for part in parts)))
        elif word == "fewest":
            return str(fewest(self.network, self.catalog, *given))
        elif word == "path":
            return " ".join(path(self.catalog, *given))
        elif word == "sides":
            return " / ".join(" ".join(side) if side else "-" for side in sides(self.network))
        return "ok"


class Examples(unittest.TestCase):
    def test_examples(self):
        desk = Desk("c s; c-s", "ra:1,2 rb:2,3 rc:3,4")
        for line, answer in (("start ra", "ok"), ("blockers c rc", "s"), ("replace c rb", "ok"), ("try s>rc", "rb rc"),
                             ("state", "rb ra"), ("fewest ra rc", "3"), ("sides", "c / s")):
            self.assertEqual(desk.say(line), answer)
        with self.assertRaises(Mixed) as caught:
            desk.say("upgrade rc")
        self.assertEqual(caught.exception.present, ("rb", "ra"))


class Checks(unittest.TestCase):
    def check(self, desk, plain, line):
        """Check a line beside the functions and a fleet, and that an error changes nothing."""
        before = self.situation(desk)
        expected, found = outcome(lambda: plain.say(line)), outcome(lambda: desk.say(line))
        self.assertEqual(found, expected, line)
        self.assertEqual(type(found), type(expected))
        if type(found) is tuple:
            self.assertEqual(self.situation(desk), before)
        if plain.fleet is not None:
            self.assertEqual(desk.say("state"), " ".join(plain.fleet.state))
            self.assertEqual(desk.say("log"), format_schedule(plain.fleet.log()))
        return found

    def situation(self, desk):
        return outcome(lambda: desk.say("state")), outcome(lambda: desk.say("log"))


class AllForms(Checks):
    def lines(self, network, catalog):
        """Return lines of all forms, with names that there are and others."""
        services, names = network[0] + ("zz",), tuple(name for name, _ in catalog) + ("zz",)
        found = ["undo", "state", "log", "sides", "try -"]
        for one, other in itertools.product(services, names):
            found += [f"replace {one} {other}", f"blockers {one} {other}", f"try {one}>{other}"]
            found += [f"try {services[0]}>{names[0]}, {one}>{other}, {one}>{names[1]}"]
        for one, other in itertools.product(names, repeat=2):
            found += [f"fewest {one} {other}", f"path {one} {other}"]
        return found + [f"{word} {name}" for word in ("start", "upgrade") for name in names]

    def test_line_by_line(self):
        for network, catalog in CASES:
            desk, plain = desk_for(network, catalog), Plain(network, catalog)
            lines = self.lines(network, catalog)
            for line in lines:
                if not line.startswith("start"):
                    self.check(desk, plain, line)
            for seed in range(3):
                chance = random.Random(seed)
                likely = [line for line in lines if "zz" not in line]
                self.check(desk, plain, "start " + catalog[0][0])
                for _ in range(150):
                    self.check(desk, plain, chance.choice(likely if chance.random() < 0.8 else lines))

    def test_each_line_in_one_situation(self):
        for network, catalog in CASES:
            for word in ("start", "upgrade"):
                desk, plain = desk_for(network, catalog), Plain(network, catalog)
                for line in self.lines(network, catalog):
                    self.check(desk, plain, "start " + catalog[1][0])
                    if word == "upgrade":
                        self.check(desk, plain, f"replace {network[0][0]} {catalog[0][0]}")
                    self.check(desk, plain, line)

    def test_answers(self):
        desk = Desk("a b c d; a-c c-d", "ra:1,2 rc:3,4 rd:4,5")
        for line, answer in (
                ("sides", "a b d / c"), ("path rd rc", "rd rc"), ("path ra ra", "ra"), ("fewest rc rd", "4"),
                ("fewest rc rc", "0"), ("start rc", "ok"), ("log", "-"), ("state", "rc rc rc rc"),
                ("blockers a rd", "-"), ("blockers c ra", "a d"), ("blockers b ra", "-"), ("replace b ra", "ok"),
                ("log", "b>ra"), ("try -", "rc ra rc rc"), ("try c>rd, b>rd, a>rd", "rd rd rd rc"),
                ("state", "rc ra rc rc"), ("undo", "ok"), ("log", "-"), ("upgrade rd", "4"), ("state", "rd rd rd rd"),
                ("log", "a>rd, c>rd, d>rd, b>rd"), ("upgrade rd", "0"), ("undo", "ok"), ("undo", "ok"), ("log", "-")):
            self.assertEqual(desk.say(line), answer)

    def test_sides(self):
        for text, answer in (("a; -", "a / -"), ("a b c; -", "a b c / -"), ("a b c; a-c b-c", "a b / c"),
                             ("a b c d; a-b c-d", "a c / b d")):
            self.assertEqual(Desk(text, "ra:1").say("sides"), answer)

    def test_great_desks(self):
        network, catalog = two_sides(6, 6), chain(12)
        desk, plain = desk_for(network, catalog), Plain(network, catalog)
        for line in ("sides", "fewest a l", "path a l", "start a", "upgrade l", "log", "state", "blockers a a", "undo"):
            self.check(desk, plain, line)


class Errors(Checks):
    def refused(self, desk, said, error, **held):
        before = self.situation(desk)
        with self.assertRaises(error) as caught:
            desk.say(said)
        self.assertEqual(vars(caught.exception), held)
        self.assertEqual(self.situation(desk), before)

    def test_without_a_fleet(self):
        desk = desk_for(PAIR, CHAIN)
        for line in ("replace c rb", "replace zz zz", "undo", "upgrade rb", "upgrade zz", "state", "log",
                     "blockers c rb", "blockers zz zz", "try c>rb", "try -", "try zz>zz", "try c>rd"):
            self.refused(desk, line, NoFleet)
        self.refused(desk, "start zz", NoRelease, value="zz")
        self.refused(desk, "state", NoFleet)
        for line in ("fewest ra rd", "path ra rd", "sides", "start ra", "state"):
            self.assertIs(type(desk.say(line)), str)

    def test_bad_lines_come_ahead_of_all_else(self):
        desk = desk_for(PAIR, CHAIN)
        for _ in range(2):
            for line in ("replace c", "replace q zz c", "upgrade", "undo c", "try", "try c", "try q>zz,", "state c",
                         "fewest zz", "blockers c RB", "log ", "start zz ra"):
                self.refused(desk, line, BadLine, line=line)
            desk.say("start ra")

    def test_errors_of_the_functions_and_methods(self):
        desk = desk_for(STAR, CHAIN)
        desk.say("start ra")
        desk.say("upgrade ra")
        desk.say("replace s rb")
        self.refused(desk, "replace q zz", NoService, value="q")
        self.refused(desk, "replace s zz", NoRelease, value="zz")
        self.refused(desk, "replace s rc", Blocked, services=("k", "m"))
        self.refused(desk, "upgrade zz", NoRelease, value="zz")
        self.refused(desk, "upgrade rb", Mixed, present=("ra", "ra", "rb"))
        self.refused(desk, "blockers q zz", NoService, value="q")
        self.refused(desk, "blockers s zz", NoRelease, value="zz")
        self.refused(desk, "try q>rb", BadSchedule, value=(("q", "rb"),))
        self.refused(desk, "try s>rd, s>zz", BadSchedule, value=(("s", "rd"), ("s", "zz")))
        self.refused(desk, "try s>ra, s>rd", NotPossible, index=1)
        self.refused(desk, "fewest zz qq", NoRelease, value="zz")
        self.refused(desk, "fewest ra qq", NoRelease, value="qq")
        self.refused(desk, "path zz qq", NoRelease, value="zz")
        self.refused(desk, "start zz", NoRelease, value="zz")
        self.assertEqual([desk.say("undo"), desk.say("undo")], ["ok", "ok"])
        self.refused(desk, "undo", NothingToUndo)

    def test_unreachable_and_not_two_sided(self):
        desk = desk_for(PAIR, GAP)
        desk.say("start rc")
        for line in ("upgrade ra", "fewest rc ra", "path rc ra"):
            self.refused(desk, line, Unreachable, names=("rc", "rd"))
        desk = desk_for(RING, GAP)
        desk.say("start rc")
        for line in ("upgrade rc", "upgrade ra", "fewest rc ra", "fewest rc rc", "sides"):
            with self.assertRaises(NotTwoSided) as caught:
                desk.say(line)
            self.assertIs(shows_odd_cycle(RING, caught.exception.cycle), True)
        self.refused(desk, "path rc ra", Unreachable, names=("rc", "rd"))

    def test_a_second_start(self):
        desk = desk_for(PAIR, CHAIN)
        desk.say("start ra")
        desk.say("upgrade rd")
        self.refused(desk, "start re", NoRelease, value="re")
        self.assertEqual([desk.say("start rb"), desk.say("state"), desk.say("log")], ["ok", "rb rb", "-"])
        self.refused(desk, "undo", NothingToUndo)
        desk.say("replace c rc")
        self.assertEqual([desk.say("start rb"), desk.say("state")], ["ok", "rb rb"])


class BadLines(Checks):
    def check_line(self, desk, line):
        """Check that a desk takes a line just if it has one of the forms."""
        found = outcome(lambda: desk.say(line))
        if has_form(line):
            self.assertNotEqual(found[0], BadLine)
        else:
            check_bad_line(self, desk, line)

    def test_words_too_many_and_too_few(self):
        for desk in self.desks():
            for word in ("start", "replace", "undo", "upgrade", "state", "log", "blockers", "try", "fewest", "path",
                         "sides", "stop", "copy", "ok", "ra", "c"):
                for many in range(5):
                    for names in itertools.product(("ra", "c"), repeat=many):
                        self.check_line(desk, " ".join((word,) + names))

    def desks(self):
        with_fleet = desk_for(PAIR, CHAIN)
        with_fleet.say("start ra")
        return with_fleet, desk_for(PAIR, CHAIN)

    def test_one_sign_otherwise(self):
        signs = ("", " ", "  ", "\n", "\t", "\u00a0", "\u2003", "A", "1", "a", "-", ">", ",", ", ", ";",
                 "\u00e4", "\u0131")
        for line in ("start ra", "replace c rb", "undo", "upgrade ra", "state", "log", "blockers c rb",
                     "try c>rb, s>rb", "try -", "fewest ra rb", "path ra rb", "sides"):
            for desk in self.desks():
                for at in range(len(line) + 1):
                    for sign in signs:
                        self.check_line(desk, line[:at] + sign + line[at:])
                        self.check_line(desk, line[:at] + sign + line[at + 1:])
                for other in (line.upper(), line.title(), line + line, line + " " + line, line[::-1], line + "\r\n"):
                    self.check_line(desk, other)

    def test_spaces_ahead_and_behind(self):
        for desk in self.desks():
            for line in ("start ra", "undo", "state", "log", "sides", "try -", "try c>rb", "path ra rb"):
                for other in (" " + line, line + " ", line + "\n", "\n" + line, line.replace(" ", "  "), line + "\t"):
                    if other != line:
                        check_bad_line(self, desk, other)

    def test_names_that_are_none(self):
        for desk in self.desks():
            for name in ("Ra", "RA", "r1", "abcdefghi", "", "-", "r_", "ra,", "\u00e9", "ra;", "1"):
                for line in (f"start {name}", f"replace c {name}", f"replace {name} ra", f"upgrade {name}",
                             f"blockers c {name}", f"blockers {name} ra", f"fewest {name} ra", f"fewest ra {name}",
                             f"path {name} ra", f"path ra {name}", f"try c>{name}", f"try {name}>ra"):
                    check_bad_line(self, desk, line)

    def test_schedules_that_are_none(self):
        for desk in self.desks():
            for text in ("", " ", "--", "c", "c>", ">ra", "c>ra,", "c>ra,s>ra", "c>ra s>ra", "c>ra, ", "c>ra, -",
                         "c>ra>ra", "c ra", " c>ra", "c>ra ", "c>ra  s>ra", "c>ra,  s>ra", "c >ra", "- ", "C>ra"):
                line = "try " + text
                check_bad_line(self, desk, line)

    def test_schedules_of_400_and_401_replacements(self):
        desk = desk_for(PAIR, CHAIN)
        part = ", ".join(["c>rb", "c>ra"] * 200)
        line = f"try {part}, c>rb"
        check_bad_line(self, desk, line)
        self.assertRaises(NoFleet, desk.say, f"try {part}")
        desk.say("start ra")
        self.assertEqual(desk.say(f"try {part}"), "ra ra")
        check_bad_line(self, desk, line)

    def test_logs_longer_than_a_schedule(self):
        desk = desk_for(PAIR, CHAIN)
        desk.say("start ra")
        for turn in range(401):
            desk.say("replace c " + ("rb", "ra")[turn % 2])
        self.assertEqual(desk.say("log"), ", ".join(["c>rb", "c>ra"] * 200 + ["c>rb"]))

    def test_any_value(self):
        for desk in self.desks():
            for value in any_values() + [["state"], ("state",), {"state": 1}, b"state", ("start", "ra")]:
                check_bad_line(self, desk, value)

    def test_long_lines(self):
        for desk in self.desks():
            for line in ("a" * 20000, " " * 20000, "state " * 3333, "try " + "c>ra, " * 3333, "start " + "a" * 19994):
                check_bad_line(self, desk, line)


class Texts(unittest.TestCase):
    def test_bad_texts_network_first(self):
        for value in any_values() + ["c s;c-s", "ra:1,2"]:
            check_refused(self, lambda: Desk(value, "ra:1,2"), BadText, value)
            other = ["other"]
            check_refused(self, lambda: Desk(value, other), BadText, value)
        for value in any_values() + ["ra:01", "c s; c-s"]:
            check_refused(self, lambda: Desk("c s; c-s", value), BadText, value)

    def test_each_desk_has_its_own_fleet(self):
        one, other = desk_for(PAIR, CHAIN), desk_for(PAIR, CHAIN)
        one.say("start ra")
        self.assertRaises(NoFleet, other.say, "state")
        other.say("start rb")
        one.say("upgrade rd")
        self.assertEqual([one.say("state"), other.say("state")], ["rd rd", "rb rb"])

    def test_arguments_by_name_in_another_sequence(self):
        desk = Desk(catalog_text="ra:1,2 rb:2,3", network_text="c s; c-s")
        self.assertEqual(desk.say(line="start rb"), "ok")
        self.assertEqual(desk.say(line="state"), "rb rb")
        first, second = ["first"], ["second"]
        check_refused(self, lambda: Desk(catalog_text=second, network_text=first), BadText, first)

    def test_lone_services_and_long_names(self):
        network = network_of(("abcdefgh", "b"))
        desk = desk_for(network, (("abcdefgh", (1,)), ("b", (2,))))
        for line, answer in (("start abcdefgh", "ok"), ("replace abcdefgh b", "ok"), ("state", "b abcdefgh"),
                             ("try b>b", "b b"), ("fewest abcdefgh b", "2"), ("sides", "abcdefgh b / -")):
            self.assertEqual(desk.say(line), answer)


if __name__ == "__main__":
    unittest.main()
