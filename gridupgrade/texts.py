"""Networks, catalogs and schedules as texts."""

from gridupgrade.catalogs import is_catalog, is_name
from gridupgrade.errors import BadText
from gridupgrade.networks import is_network
from gridupgrade.states import MOST_REPLACEMENTS

MOST_DIGITS = 10


def format_network(network):
    """Return the text of a network."""
    talks = " ".join(["-".join(pair) for pair in network[1]])
    return " ".join(network[0]) + "; " + (talks or "-")


def format_catalog(catalog):
    """Return the text of a catalog."""
    return " ".join([name + ":" + ",".join([str(version) for version in versions]) for name, versions in catalog])


def format_schedule(schedule):
    """Return the text of a schedule."""
    return ", ".join([">".join(replacement) for replacement in schedule]) or "-"


def parse_network(text):
    """Return the network that has this text."""
    if isinstance(text, str):
        services, _, talks = text.partition("; ")
        network = tuple(services.split(" ")), pairs_in(talks, " ", "-")
        if is_network(network):
            return network
    raise BadText(text)


def parse_catalog(text):
    """Return the catalog that has this text."""
    if isinstance(text, str):
        catalog = tuple([release_in(word) for word in text.split(" ")])
        if is_catalog(catalog):
            return catalog
    raise BadText(text)


def parse_schedule(text):
    """Return the schedule that has this text."""
    if isinstance(text, str):
        schedule = pairs_in(text, ", ", ">")
        if are_named_pairs(schedule):
            return schedule
    raise BadText(text)


def pairs_in(text, between, within):
    """Return what stands in a text that may be a list of pairs; where it is none, they are no pairs."""
    if text == "-":
        return ()
    return tuple([tuple(words.split(within)) for words in text.split(between)])


def release_in(word):
    """Return what stands in a word that may be a release; where it is none, it is no release."""
    name, _, versions = word.partition(":")
    return name, tuple([number_in(digits) for digits in versions.split(",")])


def number_in(digits):
    """Return the number that is written out by these digits, or None."""
    if not 1 <= len(digits) <= MOST_DIGITS or not all(["0" <= digit <= "9" for digit in digits]):
        return None
    # Only zero itself begins with a zero.
    return int(digits) if str(int(digits)) == digits else None


def are_named_pairs(pairs):
    """Return whether tuples of strings are replacements by their form, and no more than a schedule has."""
    if len(pairs) > MOST_REPLACEMENTS:
        return False
    return all([len(pair) == 2 and is_name(pair[0]) and is_name(pair[1]) for pair in pairs])
