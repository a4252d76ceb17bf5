"""Section 16, and the last sentence of guarantee (g) of section 4."""

import copy
import itertools
import random
import re
import unittest

from gridupgrade.catalogs import is_catalog
from gridupgrade.errors import BadText
from gridupgrade.networks import is_network
from gridupgrade.texts import (
    format_catalog, format_network, format_schedule, parse_catalog, parse_network, parse_schedule,
)
from tests.values import (
    ALONE, CHAIN, GAP, LETTERS, PAIR, RING, STAR, TWO_WAYS, WITH_LONE, all_networks, any_values, chain, check_refused,
    network_of, ring, two_sides,
)

PARSERS = (parse_network, parse_catalog, parse_schedule)
NAME = "[a-z]{1,8}"
NETWORK = re.compile(f"(?P<services>{NAME}( {NAME})*); (?P<talks>-|{NAME}-{NAME}( {NAME}-{NAME})*)")
CATALOG = re.compile(f"{NAME}:[0-9]+(,[0-9]+)*( {NAME}:[0-9]+(,[0-9]+)*)*")
SCHEDULE = re.compile(f"{NAME}>{NAME}(, {NAME}>{NAME})*")
# What may stand in a text by mistake.
SIGNS = ("", " ", "  ", ",", ", ", ";", "; ", "-", ">", ":", "a", "b", "c", "s", "z", "A", "0", "1", "9", "_", "\n",
         "\t", "\u00a0", "\u2003", "\u0661", "\uff11", "\u00b2", "\u00e4", "\u2010", "+")


def network_with(text):
    """Return the network with this text, or None; by a pattern and by definition 3.3."""
    found = NETWORK.fullmatch(text)
    if not found:
        return None
    services = tuple(found["services"].split())
    talks = () if found["talks"] == "-" else tuple(tuple(word.split("-")) for word in found["talks"].split())
    if len(services) > 12 or list(services) != sorted(set(services)):
        return None
    if len(talks) > 40 or list(talks) != sorted(set(talks)):
        return None
    if not all(one < other and {one, other} <= set(services) for one, other in talks):
        return None
    return services, talks


def catalog_with(text):
    """Return the catalog with this text, or None; by a pattern and by definition 3.2."""
    if not CATALOG.fullmatch(text) or re.search("(^|[^0-9])0[0-9]", text):
        return None
    found = []
    for word in text.split():
        name, numbers = word.split(":")
        if max(len(number) for number in numbers.split(",")) > 10:
            return None
        versions = tuple(int(number) for number in numbers.split(","))
        if len(versions) > 8 or list(versions) != sorted(set(versions)) or versions[-1] > 10 ** 9:
            return None
        found.append((name, versions))
    names = [name for name, _ in found]
    return tuple(found) if len(names) <= 12 and names == sorted(set(names)) else None


def schedule_with(text):
    """Return the schedule with this text, or None; by a pattern and by definition 3.5."""
    if text == "-":
        return ()
    if not SCHEDULE.fullmatch(text):
        return None
    found = tuple(tuple(part.split(">")) for part in text.split(", "))
    return found if len(found) <= 400 else None


def mistakes(text):
    """Return texts with one sign put in, left out or otherwise, and with two neighbours exchanged."""
    found = []
    for at in range(len(text) + 1):
        found += [text[:at] + sign + text[at:] for sign in SIGNS]
        found += [text[:at] + sign + text[at + 1:] for sign in SIGNS]
        found += [text[:at] + text[at:at + 2][::-1] + text[at + 2:], text[:at], text[at:], text[:at] + text[:at]]
    return found


class Examples(unittest.TestCase):
    def test_examples(self):
        self.assertEqual(format_network(STAR), "k m s; k-s m-s")
        self.assertEqual(format_catalog(CHAIN[:2]), "ra:1,2 rb:2,3")
        self.assertEqual(format_schedule((("c", "rb"), ("s", "rc"))), "c>rb, s>rc")
        self.assertEqual(parse_network("a b; -"), (("a", "b"), ()))
        self.assertEqual(parse_schedule("-"), ())
        check_refused(self, lambda: parse_catalog("ra:01"), BadText, "ra:01")


class Checks(unittest.TestCase):
    def check_value(self, write, parse, value, text):
        before = copy.deepcopy(value)
        self.assertEqual(write(value), text)
        self.assertIs(type(write(value)), str)
        self.assertEqual(repr(parse(text)), repr(value))
        self.assertEqual(value, before)

    def check_text(self, write, parse, text, expected):
        if expected is None:
            check_refused(self, lambda: parse(text), BadText, text)
        else:
            found = parse(text)
            self.assertEqual(repr(found), repr(expected))
            self.assertEqual(write(found), text)

    def check_any_value(self, parse):
        for value in any_values():
            if value != "-" or parse is not parse_schedule:
                check_refused(self, lambda: parse(value), BadText, value)
        for value in ((b"a; -",), ["a; -"], ("a", "b"), {"a; -": 1}, 0, 10 ** 20):
            check_refused(self, lambda: parse(value), BadText, value)


class Networks(Checks):
    def check(self, network, text):
        self.check_value(format_network, parse_network, network, text)

    def check_all(self, texts):
        for text in texts:
            self.check_text(format_network, parse_network, text, network_with(text))

    def test_texts(self):
        for network, text in (
                (PAIR, "c s; c-s"), (RING, "x y z; x-y x-z y-z"), (ALONE, "a b; -"), (WITH_LONE, "a b c d; a-c c-d"),
                ((("a",), ()), "a; -"), ((("abcdefgh", "z"), (("abcdefgh", "z"),)), "abcdefgh z; abcdefgh-z")):
            self.check(network, text)

    def test_all_networks_of_four_services(self):
        for network in all_networks("abcd"):
            text = "a b c d; " + (" ".join(one + "-" + other for one, other in network[1]) or "-")
            self.check(network, text)

    def test_great_networks(self):
        every = list(itertools.combinations(LETTERS[:12], 2))
        for network in (two_sides(6, 6), ring(12), network_of(LETTERS[:12], *every[:40])):
            self.assertEqual(parse_network(format_network(network)), network)
        forty, services = " ".join(map("-".join, every[:40])), " ".join(LETTERS[:12])
        self.check_text(format_network, parse_network, f"{services}; {forty}", (tuple(LETTERS[:12]), tuple(every[:40])))
        more = " ".join(map("-".join, every[:41]))
        self.check_all([f"{services}; {forty}", f"{services}; {more}"])
        self.assertRaises(BadText, parse_network, f"{services}; {more}")
        for many in (12, 13, 14):
            services = " ".join(LETTERS[:many])
            self.check_all([f"{services}; -", f"{services}; a-b"])
        self.assertRaises(BadText, parse_network, " ".join(LETTERS[:13]) + "; -")

    def test_mistakes(self):
        for text in ("a b; -", "k m s; k-s m-s", "a; -", "x y z; x-y x-z y-z"):
            self.check_all(mistakes(text))

    def test_what_is_wrong(self):
        wrong = (
            "", "-", ";", "; ", "; -", "a", "a;", "a; ", "a;-", "a ; -", " a; -", "a; - ", "a;  -", "a  b; -", "a b;-",
            "b a; -", "a a; -", "a b; a-a", "a b; b-a", "a b; a-c", "a b c; a-c a-b", "a b; a-b a-b", "a b; a-b -",
            "a b; - a-b", "a b; a-b; -", "a b; -; -", "a b; --", "a b; a--b", "a b; a-", "a b; -b", "a b; a-b-a",
            "A b; -", "a1; -", "abcdefghi; -", "a,b; -", "a b; a-b\n", "\na b; a-b", "a b\n; -", "a\u00a0b; -",
            "a b; a\u2010b", "\u00e4; -", "\uff41; -", "a b; a-b,", "a b; a-b  a-b", "a b c; a-b, a-c", "a\tb; -",
        )
        for text in wrong:
            self.assertIsNone(network_with(text))
            check_refused(self, lambda: parse_network(text), BadText, text)

    def test_any_value(self):
        self.check_any_value(parse_network)


class Catalogs(Checks):
    def check(self, catalog, text):
        self.check_value(format_catalog, parse_catalog, catalog, text)

    def check_all(self, texts):
        for text in texts:
            self.check_text(format_catalog, parse_catalog, text, catalog_with(text))

    def test_texts(self):
        for catalog, text in (
                (CHAIN, "ra:1,2 rb:2,3 rc:3,4 rd:4,5"), (GAP, "ra:1,2 rc:3,4 rd:4,5"),
                (TWO_WAYS, "ra:1,2 rb:1,3 rc:2,4 rd:3,4"), ((("a", (0,)),), "a:0"),
                ((("abcdefgh", (0, 10, 10 ** 9)), ("b", (1000000000,))), "abcdefgh:0,10,1000000000 b:1000000000"),
                ((("a", tuple(range(8))),), "a:0,1,2,3,4,5,6,7")):
            self.check(catalog, text)

    def test_great_catalogs(self):
        widest = tuple((letter * 8, tuple(range(10 ** 9 - 7, 10 ** 9 + 1))) for letter in LETTERS[:12])
        for catalog in (chain(12), widest):
            self.assertIs(is_catalog(catalog), True)
            self.assertEqual(parse_catalog(format_catalog(catalog)), catalog)
        for many in (12, 13, 14):
            self.check_all([" ".join(letter + ":1" for letter in LETTERS[:many])])
        for many in (8, 9, 10):
            self.check_all(["a:" + ",".join(str(number) for number in range(many))])
        self.assertRaises(BadText, parse_catalog, " ".join(letter + ":1" for letter in LETTERS[:13]))
        self.assertRaises(BadText, parse_catalog, "a:0,1,2,3,4,5,6,7,8")

    def test_versions(self):
        for digits in ("0", "1", "9", "10", "999999999", "1000000000"):
            self.assertEqual(parse_catalog("a:" + digits), (("a", (int(digits),)),))
        for digits in ("00", "01", "0000000001", "00000000001", "1000000001", "9999999999", "10000000000",
                       "01000000000", "99999999999", "1" + "0" * 4000, "1" + "0" * 19000, "0" * 19000, "+1", "-1",
                       "1.0", "1e3", "1_0", "0x1", "\u0661", "\uff11", "1\u0661", "\u00b2", "\u2160", "", " ",
                       "a", "1a"):
            for text in ("a:" + digits, "a:" + digits + ",1000000000", "a:0," + digits, "a:1 b:" + digits):
                self.assertIsNone(catalog_with(text))
                check_refused(self, lambda: parse_catalog(text), BadText, text)

    def test_mistakes(self):
        for text in ("ra:1,2 rb:2,3", "a:0", "a:10,1000000000 b:7"):
            self.check_all(mistakes(text))

    def test_what_is_wrong(self):
        wrong = (
            "", "-", ":", "a", "a:", ":1", "a:1,", "a:,1", "a:1,,2", "a:1, 2", "a: 1", "a :1", " a:1", "a:1 ",
            "a:1  b:1", "a:1,b:1", "a:1 a:2", "b:1 a:1", "a:2,1", "a:1,1", "A:1", "a1:1", "abcdefghi:1", "a:1:2",
            "a:1;b:1", "a:1\n", "a:1\nb:1", "a:1\tb:1", "a:1\u00a0b:1", "\u00e4:1", "a:1 -", "a::1", "a:1 b", "a-1",
            "a:1 b:2,1",
        )
        for text in wrong:
            self.assertIsNone(catalog_with(text))
            check_refused(self, lambda: parse_catalog(text), BadText, text)

    def test_any_value(self):
        self.check_any_value(parse_catalog)


class Schedules(Checks):
    def check(self, schedule, text):
        self.check_value(format_schedule, parse_schedule, schedule, text)

    def check_all(self, texts):
        for text in texts:
            self.check_text(format_schedule, parse_schedule, text, schedule_with(text))

    def test_texts(self):
        for schedule, text in (
                ((), "-"), ((("c", "rb"),), "c>rb"), ((("c", "rb"), ("s", "rc")), "c>rb, s>rc"),
                ((("s", "a"), ("s", "a"), ("c", "b")), "s>a, s>a, c>b"),
                ((("abcdefgh", "zyxwvuts"),), "abcdefgh>zyxwvuts")):
            self.check(schedule, text)

    def test_400_and_401_replacements(self):
        for many in (1, 2, 399, 400, 401, 402, 800):
            schedule = (("abcdefgh", "rrrrrrrr"), ("s", "ra"))[:2] * (many // 2) + (("c", "rb"),) * (many % 2)
            text = ", ".join(service + ">" + release for service, release in schedule)
            self.assertEqual(format_schedule(schedule), text)
            self.check_text(format_schedule, parse_schedule, text, schedule if many <= 400 else None)

    def test_mistakes(self):
        for text in ("-", "c>rb", "c>rb, s>rc, c>a"):
            self.check_all(mistakes(text))

    def test_what_is_wrong(self):
        wrong = (
            "", " ", "--", "- ", " -", ">", "c", "c>", ">rb", "c>rb,", "c>rb, ", ", c>rb", "c>rb,s>rc", "c>rb,  s>rc",
            "c>rb , s>rc", "c>rb s>rc", "c >rb", "c> rb", "c>rb, -", "-, c>rb", "c>rb>rc", "c>>rb", "C>rb", "c>rB",
            "c1>rb", "abcdefghi>rb", "c>abcdefghi", "c>rb\n", "c>rb,\ns>rc", "c>rb,\u00a0s>rc", "c\uff1erb", "c-rb",
            "c>rb; s>rc",
        )
        for text in wrong:
            self.assertIsNone(schedule_with(text))
            check_refused(self, lambda: parse_schedule(text), BadText, text)

    def test_any_value(self):
        self.check_any_value(parse_schedule)


class ParsedBack(unittest.TestCase):
    def test_values_by_chance(self):
        chance = random.Random(5)

        def name():
            return "".join(chance.choice("abyz") for _ in range(chance.randint(1, 8)))

        def names():
            return tuple(sorted({name() for _ in range(chance.randint(1, 12))}))

        for _ in range(300):
            services = names()
            pairs = list(itertools.combinations(services, 2))
            network = services, tuple(sorted(chance.sample(pairs, chance.randint(0, min(40, len(pairs))))))
            self.assertIs(is_network(network), True)
            self.assertEqual(parse_network(format_network(network)), network)
            numbers = (0, 1, 9, 10, 99, 10 ** 9, 10 ** 9 - 1, 123456789)
            catalog = tuple((name, tuple(sorted(chance.sample(numbers, chance.randint(1, 8))))) for name in names())
            self.assertIs(is_catalog(catalog), True)
            self.assertEqual(parse_catalog(format_catalog(catalog)), catalog)
            schedule = tuple((name(), name()) for _ in range(chance.choice((0, 1, 2, 9, 400))))
            self.assertEqual(parse_schedule(format_schedule(schedule)), schedule)

    def test_no_text_is_one_of_two_kinds(self):
        texts = (format_network(STAR), format_catalog(CHAIN), format_schedule((("c", "rb"),)), "-")
        for text, parse in itertools.product(texts, PARSERS):
            right = PARSERS[min(texts.index(text), 2)]
            if parse is not right:
                check_refused(self, lambda: parse(text), BadText, text)


class Calls(unittest.TestCase):
    def test_arguments_by_name(self):
        self.assertEqual(format_network(network=PAIR), "c s; c-s")
        self.assertEqual(format_catalog(catalog=CHAIN[:1]), "ra:1,2")
        self.assertEqual(format_schedule(schedule=(("c", "rb"),)), "c>rb")
        self.assertEqual(parse_network(text="c s; c-s"), PAIR)
        self.assertEqual(parse_catalog(text="ra:1,2"), CHAIN[:1])
        self.assertEqual(parse_schedule(text="c>rb"), (("c", "rb"),))

    def test_long_texts(self):
        for parse in PARSERS:
            for part in ("a", "a ", "a; ", "a:1 ", "a>b, ", "-", " ", "1", "a-b ", "1,"):
                text = part * (20000 // len(part))
                check_refused(self, lambda: parse(text), BadText, text)
            for text in ("a; " + "a-b " * 4900, "a:" + "1" * 19998, "a:" + "1," * 9000):
                check_refused(self, lambda: parse(text), BadText, text)


if __name__ == "__main__":
    unittest.main()
