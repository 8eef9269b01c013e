"""Steady updates with the fewest blocks, and papers that show that none has fewer."""

from tarhouse.bases import bases_of, files_of, full_cost, new_members, other_members, savings_of, taking_members
from tarhouse.markets import Market


def fewest_blocks(members, house):
    """Return the fewest blocks of steady updates for each number of kept members, or None."""
    return [None if base is None else fewest_from(base, house) for base in bases_of(members, house)]


def least_update(members, house):
    """Return a steady update with the fewest blocks, as `(kept, added)`."""
    bases = bases_of(members, house)
    # Nothing of the house is in the way if no member is kept.
    possible = [kept for kept in range(len(bases)) if bases[kept] is not None]
    best = min(possible, key=lambda kept: fewest_from(bases[kept], house))
    return (best, added_members(bases[best], house))


def update_paper(members, house):
    """Return a paper that shows the fewest blocks of all steady updates."""
    bases = bases_of(members, house)
    return {kept: None if bases[kept] is None else prices_from(bases[kept], house) for kept in range(len(bases))}


def market_of(base, house):
    """Return the market in which the classes of a house take files of a base."""
    return Market(list(files_of(house)), list(files_of(base)), savings_of(base, house))


def fewest_from(base, house):
    """Return the fewest blocks of steady updates that start from a base."""
    return full_cost(base, house) - market_of(base, house).total()


def prices_from(base, house):
    """Return the prices of the classes and the files for a base."""
    market = market_of(base, house)
    return (market.class_prices, market.file_prices)


def added_members(base, house):
    """Return the members that lead with the fewest blocks from a base to a house."""
    market = market_of(base, house)
    files = files_of(base)
    added = other_members(base, house)
    for first, paths in files_of(house).items():
        other = market.chosen.get(first)
        # A class may also have a file that it may not take over, if it saves nothing.
        if other is not None and market.saving(first, other) > 0:
            added += taking_members(paths, files[other])
        else:
            added += new_members(paths, house.things[first])
    return added
