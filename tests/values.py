"""Values and checks that several tests share."""

import copy
import itertools

LETTERS = "abcdefghijklmn"
CHAIN = (("ra", (1, 2)), ("rb", (2, 3)), ("rc", (3, 4)), ("rd", (4, 5)))
PAIR = (("c", "s"), (("c", "s"),))
STAR = (("k", "m", "s"), (("k", "s"), ("m", "s")))
RING = (("x", "y", "z"), (("x", "y"), ("x", "z"), ("y", "z")))
ALONE = (("a", "b"), ())
WITH_LONE = (("a", "b", "c", "d"), (("a", "c"), ("c", "d")))
GAP = CHAIN[:1] + CHAIN[2:]
# Two ways from ra to rd, and from rb to rc.
TWO_WAYS = (("ra", (1, 2)), ("rb", (1, 3)), ("rc", (2, 4)), ("rd", (3, 4)))


def network_of(services, *pairs):
    """Return the network with these services and with talks for the pairs, in whatever order."""
    return tuple(sorted(services)), tuple(sorted(tuple(sorted(pair)) for pair in pairs))


def row(many):
    """Return a network whose talks are one row of so many services."""
    services = LETTERS[:many]
    return network_of(services, *zip(services, services[1:]))


def ring(many):
    """Return a network whose talks are one ring of so many services."""
    services = LETTERS[:many]
    return network_of(services, *zip(services, services[1:] + services[:1]))


def two_sides(many, others):
    """Return a network of so many services, each of which talks to each of so many others."""
    services = LETTERS[:many + others]
    return network_of(services, *itertools.product(services[:many], services[many:]))


def all_networks(services):
    """Return each network with these services."""
    for talks in all_graphs(services):
        yield tuple(services), talks


def all_graphs(names):
    """Return each set of pairs of the names."""
    pairs = list(itertools.combinations(names, 2))
    for many in range(len(pairs) + 1):
        yield from itertools.combinations(pairs, many)


def catalog_of(names, pairs):
    """Return a catalog in which just these pairs of names, and each name with itself, are compatible."""
    spoken = {name: [number] for number, name in enumerate(names)}
    for number, pair in enumerate(pairs):
        for name in pair:
            spoken[name].append(100 + number)
    return tuple((name, tuple(spoken[name])) for name in names)


def chain(many):
    """Return a catalog of so many releases, each compatible with the following one."""
    return catalog_of(LETTERS[:many], list(zip(LETTERS, LETTERS[1:many])))


def nested(wrap, depth):
    """Return None, wrapped depth times."""
    value = None
    for _ in range(depth):
        value = wrap(value)
    return value


def any_values():
    """Return values of all kinds, made anew, none of which is a name."""
    return [
        None, True, False,
        0, 1, -1, 2, 10 ** 9, 10 ** 30 - 1, 1 - 10 ** 30,
        "", " ", "-", "A", "Ra", "RA", "r1", "r_", "ra ", " ra", "ra\n", "\u00e9", "\u0131", "\uff41", "\u0430",
        "abcdefghi", "x" * 20000, "`", "{", "a,b", "None",
        (), ((),), (None,), ("ra",), ("c",), (("ra", (1, 2)),), (1, 2), ("c", "s"), (True, False), ({},), ([],),
        [], [[]], [None], ["ra"], ["c"], ["ra", [1, 2]], [1, 2], [("c", "s")], [{}],
        {}, {"ra": 1}, {"c": "s"}, {"ra": (1, 2)}, {1: [2]}, {(): {}}, {None: None}, {("c", "s"): ["c"]},
        nested(lambda value: (value,), 20), nested(lambda value: [value], 20),
        nested(lambda value: {"ra": value}, 20), nested(lambda value: ("c", [value]), 10),
        nested(lambda value: [{"c": (value,)}], 6),
    ]


def variants(value):
    """Return values made from a tuple of tuples, strings and integers by changing one part at any depth.

    A part is replaced by any value or by one that looks like it; of a tuple an item is left out,
    put in, put there twice or moved. A few of the values may be as good as the given one.
    """
    found = any_values()
    if isinstance(value, tuple):
        found += [list(value), dict(enumerate(value)), value[::-1], value + value, (value,), value[1:] + value[:1]]
        found += [value + (extra,) for extra in any_values()]
        for at, part in enumerate(value):
            before, after = value[:at], value[at + 1:]
            found += [before + after, before + (part, part) + after]
            found += [before + (other,) + after for other in variants(part)]
    elif isinstance(value, str):
        found += [value + "x", value[:-1], value.upper(), value + " ", [value], {value: 1}, (value,)]
        found += ["c", "k", "m", "s", "q", "ra", "rb", "rc", "rd", "re"]
    else:
        found += [value == 1, value + 1, value - 1, -value, str(value), [value], (value,), {value: 1}]
    return found


def check_any_value(case, function, value, expected):
    """Check that function(value) returns True or False as expected, and leaves the value as it is."""
    before = copy.deepcopy(value)
    case.assertIs(function(value), expected, repr(value)[:200])
    case.assertEqual(repr(value), repr(before))


def check_refused(case, function, error, value, name="value"):
    """Check that function() raises the error that holds this very value, which stays as it is, under the name."""
    before = copy.deepcopy(value)
    with case.assertRaises(error) as caught:
        function()
    case.assertTrue(getattr(caught.exception, name) is value, repr(value)[:200])
    case.assertEqual(repr(value), repr(before))
