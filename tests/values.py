"""Values and checks that several tests share."""

import copy

CHAIN = (("ra", (1, 2)), ("rb", (2, 3)), ("rc", (3, 4)), ("rd", (4, 5)))
PAIR = (("c", "s"), (("c", "s"),))
STAR = (("k", "m", "s"), (("k", "s"), ("m", "s")))
RING = (("x", "y", "z"), (("x", "y"), ("x", "z"), ("y", "z")))


def nested(wrap, depth):
    """Return None, wrapped depth times."""
    value = None
    for _ in range(depth):
        value = wrap(value)
    return value


def any_values():
    """Return values of all kinds, made anew, none of which is a name."""
    return [
        None, True, False,
        0, 1, -1, 2, 10 ** 9, 10 ** 30 - 1, 1 - 10 ** 30,
        "", " ", "-", "A", "Ra", "RA", "r1", "r_", "ra ", " ra", "ra\n", "\u00e9", "\u0131", "\uff41", "\u0430",
        "abcdefghi", "x" * 20000, "`", "{", "a,b", "None",
        (), ((),), (None,), ("ra",), ("c",), (("ra", (1, 2)),), (1, 2), ("c", "s"), (True, False), ({},), ([],),
        [], [[]], [None], ["ra"], ["c"], ["ra", [1, 2]], [1, 2], [("c", "s")], [{}],
        {}, {"ra": 1}, {"c": "s"}, {"ra": (1, 2)}, {1: [2]}, {(): {}}, {None: None}, {("c", "s"): ["c"]},
        nested(lambda value: (value,), 20), nested(lambda value: [value], 20),
        nested(lambda value: {"ra": value}, 20), nested(lambda value: ("c", [value]), 10),
        nested(lambda value: [{"c": (value,)}], 6),
    ]


def check_any_value(case, function, value, expected):
    """Check that function(value) returns True or False as expected, and leaves the value as it is."""
    before = copy.deepcopy(value)
    case.assertIs(function(value), expected, repr(value)[:200])
    case.assertEqual(repr(value), repr(before))


def check_refused(case, function, error, value):
    """Check that function() raises the error with this very value, which stays as it is."""
    before = copy.deepcopy(value)
    with case.assertRaises(error) as caught:
        function()
    case.assertIs(caught.exception.value, value)
    case.assertEqual(repr(value), repr(before))
