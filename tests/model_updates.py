"""Points [15] to [17], written down once more: what updates cost, by the words and by a search."""

import heapq

from tarhouse.houses import House
from tarhouse.members import Directory, File, Link, Sparse, Symlink
from tarhouse.unpacking import unpacked
from tarhouse.writing import blocks_of
from tarhouse.errors import Refused


def long(name):
    return 0 if len(name) <= 100 else 2


def base_of(members, house):
    """The house that kept members leave, None if there is no steady update that keeps them."""
    try:
        base = unpacked(House(), members)
    except Refused:
        return None
    for path, thing in base.entries():
        if not house.has(path) or (thing[0] == "directory") != (house.thing_at(path)[0] == "directory"):
            return None
    return base


def sharing(house):
    """The lists of the paths that share a file, by the least of them."""
    return {path: house.sharers(path) for path, thing in house.entries() if thing[0] == "file"}


def costs(base, house):
    """All costs without the savings."""
    total = 0
    for path, thing in house.entries():
        there = base.thing_at(path) if base.has(path) else None
        if thing[0] == "directory":
            if there is not None:
                needed = there != thing
            else:
                below = [other for other, _ in house.entries() if other.startswith(path + "/")]
                needed = thing[1:] != (493, 0) or not below
            total += (1 + long(path)) * needed
        elif thing[0] == "symlink":
            total += (1 + long(path) + long(thing[1])) * (there != thing)
    return total + sum(new_blocks(house, first, paths) for first, paths in sharing(house).items())


def new_blocks(house, first, paths):
    data = house.thing_at(first)[1]
    total = (len(data) + 511) // 512 + sum(1 + long(path) for path in paths)
    if not any(long(path) == 0 for path in paths):
        total += 2 * (len(paths) - 1)
    return total


def saved(base, house, first, other):
    """What a class saves by a file of the base, None if it may not take it over."""
    paths, places = house.sharers(first), base.sharers(other)
    both = [path for path in paths if path in places]
    rest = [path for path in paths if path not in places]
    if house.thing_at(first) != base.thing_at(other) or not both:
        return None
    if any(long(path) == 0 for path in both) or not rest:
        more = 0
    elif any(long(path) == 0 for path in rest):
        more = 2
    else:
        more = 2 * len(rest)
    return new_blocks(house, first, paths) - sum(1 + long(path) for path in rest) - more


def greatest(base, house, classes, taken=()):
    """The greatest sum of savings of these classes, without the files that are taken: all choices are tried."""
    if not classes:
        return 0
    best = greatest(base, house, classes[1:], taken)
    for other in sharing(base):
        saving = saved(base, house, classes[0], other)
        if saving is not None and other not in taken:
            best = max(best, saving + greatest(base, house, classes[1:], taken + (other,)))
    return best


def fewest(members, house):
    """What `fewest_blocks` has to give."""
    found = []
    for many in range(len(members) + 1):
        base = base_of(members[:many], house)
        if base is None:
            found.append(None)
        else:
            found.append(costs(base, house) - greatest(base, house, sorted(sharing(house))))
    return found


def is_steady(added):
    """Whether no member that follows a hard link has its target as its name."""
    return not any(
        isinstance(member, Link) and member.target in [later.name for later in added[index + 1:]]
        for index, member in enumerate(added)
    )


def useful_members(house):
    """All members that a shortest steady update may add."""
    found = []
    files = sorted({house.thing_at(path) for path, thing in house.entries() if thing[0] == "file"})
    paths = [path for path, _ in house.entries()]
    for path in paths:
        thing = house.thing_at(path)
        if thing[0] == "directory":
            found.append(Directory(path, mode=thing[1], time=thing[2]))
            continue
        found += [File(path, data, mode=mode, time=time) for _, data, mode, time in files]
        found += [Link(path, other) for other in paths if house.thing_at(other)[0] != "directory"]
        if thing[0] == "symlink":
            found.append(Symlink(path, thing[1], mode=thing[2], time=thing[3]))
    return found


def searched(base, house):
    """The fewest blocks of all steady updates, found by trying them, the shorter ones first."""
    members = [(blocks_of(member), member) for member in useful_members(house)]
    goal = (tuple(house.entries()))
    met = set()
    count = 0
    waiting = [(0, count, base, frozenset())]
    while waiting:
        blocks, _, tree, barred = heapq.heappop(waiting)
        state = (tuple(tree.entries()), barred)
        if state[0] == goal:
            return blocks
        if state in met:
            continue
        met.add(state)
        for more, member in members:
            if member.name in barred:
                continue
            try:
                after = unpacked(tree, [member])
            except Refused:
                continue
            count += 1
            targets = barred | {member.target} if isinstance(member, Link) else barred
            heapq.heappush(waiting, (blocks + more, count, after, targets))
    return None


def is_right(members, house, update):
    """Whether an update is a steady one, without sparse files, that leads to a house."""
    kept, added = update
    if not 0 <= kept <= len(members) or any(isinstance(member, Sparse) for member in added):
        return False
    return is_steady(added) and unpacked(House(), list(members[:kept]) + added) == house


def blocks_in(added):
    return sum(blocks_of(member) for member in added)


N = {letter: letter * 101 for letter in "abcdefgh"}


def any_wanted(source, paths, links=0.4):
    """A house over some of these paths, with files of few contents."""
    contents = [b"", b"1", b"2" * 513]
    entries, files = {}, []
    for path in sorted(source.sample(paths, source.randrange(1, len(paths) + 1))):
        front = path.rpartition("/")[0]
        if front and entries.get(front, ("",))[0] != "directory":
            continue
        choice = source.random()
        if any(other.startswith(path + "/") for other in paths) and choice < 0.7:
            entries[path] = ("directory", source.choice([493, 493, 448]), source.choice([0, 0, 1]))
        elif files and choice < links:
            entries[path] = ("link", source.choice(files))
        elif choice < links + 0.1:
            entries[path] = ("symlink", source.choice(["t", "t" * 101]), 511, 0)
        elif choice < links + 0.15:
            entries[path] = ("directory", source.choice([493, 448]), 0)
        else:
            entries[path] = ("file", source.choice(contents), source.choice([420, 420, 1]), 0)
            files.append(path)
    return House.of(list(entries.items()))


def any_kept(source, house, most):
    """Members that put some of the things of a house at some of its paths, most often without a refusal."""
    found, put = [], []
    paths = [path for path, _ in house.entries()]
    files = [path for path in paths if house.thing_at(path)[0] == "file"]
    for _ in range(source.randrange(most + 1) if paths else 0):
        path = source.choice(paths)
        kind, *given, mode, time = house.thing_at(path)
        choice = source.random()
        if choice < 0.02:
            found.append(Sparse(path, 1, (0, b"1")))
        elif choice < 0.04:
            found.append(Link(path, source.choice(paths)))
        elif kind == "directory":
            found.append(Directory(path, mode=source.choice([mode, 493]), time=source.choice([time, 0])))
        elif kind == "symlink" and choice < 0.4:
            found.append(Symlink(path, source.choice([given[0], "t"]), mode=mode, time=time))
        elif put and choice < 0.6:
            found.append(Link(path, source.choice(put)))
            put.append(path)
        elif files:
            _, data, mode, time = house.thing_at(source.choice(files))
            found.append(File(path, data, mode=mode, time=time))
            put.append(path)
    return found
