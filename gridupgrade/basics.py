"""What several files need: integers, ascending sequences, and steps from one thing to the next."""


def is_integer(value):
    """Return whether any value is an integer; True and False are none."""
    return isinstance(value, int) and not isinstance(value, bool)


def is_ascending(values):
    """Return whether each of the values, which must be comparable, is below the following one."""
    return all([value < following for value, following in zip(values, values[1:])])


def layers(links, start):
    """Return the names (or nodes) that can be reached from start, as a list of ascending tuples.

    links has for each name the names that are one step away from it. The first tuple holds the
    names 0 steps from start, the second one those that need 1 step, and so on.
    """
    seen = {start: True}
    found = []
    layer = (start,)
    while layer:
        found.append(layer)
        layer = tuple(sorted({name for known in layer for name in links[known] if name not in seen}))
        for name in layer:
            seen[name] = True
    return found


def least_linked(links, name, layer):
    """Return the least name of a layer that is one step away from name."""
    return min([other for other in layer if other in links[name]])
