"""Checking papers, without a search for updates."""

from tarhouse.bases import bases_of, files_of, full_cost, savings_of
from tarhouse.checks import is_integer, is_integer_within


def shows(members, house, thing, number):
    """Return whether any value is a paper that shows a number, any value."""
    bases = bases_of(members, house)
    if not is_integer(number) or not is_row(thing, len(bases)):
        return False
    return all([is_shown(base, house, thing[kept], number) for kept, base in enumerate(bases)])


def is_row(thing, many):
    """Return whether a value is a dict with just the keys 0 and on, this many."""
    if not isinstance(thing, dict) or len(thing) != many:
        return False
    return all([is_integer_within(key, 0, many - 1) for key in thing])


def is_shown(base, house, thing, number):
    """Return whether a value is what a paper has for a base, and shows a number."""
    if base is None:
        return thing is None
    if not isinstance(thing, tuple) or len(thing) != 2:
        return False
    class_prices, file_prices = thing
    if not are_prices(class_prices, files_of(house)) or not are_prices(file_prices, files_of(base)):
        return False
    for (first, other), saving in savings_of(base, house).items():
        if class_prices[first] + file_prices[other] < saving:
            return False
    prices = list(class_prices.values()) + list(file_prices.values())
    return full_cost(base, house) - sum(prices) >= number


def are_prices(thing, files):
    """Return whether a value is a dict with a price for each of these files, and nothing else."""
    if not isinstance(thing, dict) or len(thing) != len(files):
        return False
    return all([path in files and is_integer(thing[path]) and thing[path] >= 0 for path in thing])
