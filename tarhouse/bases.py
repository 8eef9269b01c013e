"""What steady updates start from, what they add to it, and how many blocks that costs.

Each cost is the number of blocks of the members that are added for it.
"""

from tarhouse.errors import Refused
from tarhouse.houses import House, kind_at
from tarhouse.members import Directory, File, Link, Symlink
from tarhouse.paths import directory_of
from tarhouse.trees import MADE
from tarhouse.unpacking import unpacked
from tarhouse.writing import blocks_of


def bases_of(members, house):
    """Return the base for each number of kept members, None where there is no steady update."""
    return [base_of(members[:many], house) for many in range(len(members) + 1)]


def base_of(kept, house):
    """Return the house that kept members leave, None if no steady update keeps them."""
    try:
        base = unpacked(House(), kept)
    except Refused:
        return None
    return base if may_become(base, house) else None


def may_become(base, house):
    """Return whether members that only add and replace can lead from a base to a house."""
    for path in base.things:
        kinds = [kind_at(path, base.things), kind_at(path, house.things)]
        if "" in kinds or (kinds[0] == "directory") != (kinds[1] == "directory"):
            return False
    return True


def files_of(house):
    """Return the ascending lists of the paths that share a file, by the least of them."""
    found = {}
    for path in sorted(house.firsts):
        found.setdefault(house.firsts[path], []).append(path)
    return found


def other_members(base, house):
    """Return the directories and symlinks that an update adds."""
    filled_paths = {directory_of(path): True for path in house.things}
    found = []
    for path, thing in house.entries():
        there = base.things.get(path)
        if thing[0] == "directory":
            # What members below it make need not be added.
            if there is None and path in filled_paths:
                there = MADE
            if there != thing:
                found.append(Directory(path, mode=thing[1], time=thing[2]))
        elif thing[0] == "symlink" and there != thing:
            found.append(Symlink(path, thing[1], mode=thing[2], time=thing[3]))
    return found


def new_members(paths, thing):
    """Return the members that put a new file at all paths of a class."""
    # Targets that are not short cost more: the links have the shortest one.
    first = min(paths, key=len)
    file = File(first, thing[1], mode=thing[2], time=thing[3])
    return [file, *[Link(path, first) for path in paths if path != first]]


def taking_members(paths, places):
    """Return the members by which a class takes over the file that stands at these places."""
    fresh = [path for path in paths if path not in places]
    if len(fresh) == 0:
        return []
    # Places of other classes are no targets: what stands there is replaced.
    source = min([path for path in paths if path in places], key=len)
    first = min(fresh, key=len)
    target = min([source, first], key=len)
    return [Link(first, source), *[Link(path, target) for path in fresh if path != first]]


def savings_of(base, house):
    """Return what a class saves by a file that it may take over, by the least paths of both."""
    files = files_of(base)
    classes = files_of(house)
    savings = {}
    for first, paths in classes.items():
        thing = house.things[first]
        for other, places in files.items():
            if base.things[other] == thing and any([path in places for path in paths]):
                taken = blocks_in(taking_members(paths, places))
                savings[(first, other)] = blocks_in(new_members(paths, thing)) - taken
    return savings


def full_cost(base, house):
    """Return the fewest blocks of a steady update that takes over no file."""
    classes = files_of(house)
    costs = [blocks_in(new_members(paths, house.things[first])) for first, paths in classes.items()]
    return blocks_in(other_members(base, house)) + sum(costs)


def blocks_in(members):
    """Return how many blocks some members have."""
    return sum([blocks_of(member) for member in members])
