"""What symlinks resolve to, and what is dangerous about members."""

from tarhouse.errors import Refused
from tarhouse.houses import House
from tarhouse.members import check_name, is_path
from tarhouse.unpacking import unpacked
from tarhouse.walking import Resolver


def resolved(house, name):
    """Walk a name from the root; return where it leads, as a tuple."""
    check_name(name)
    return Resolver(house.things).resolve(name)


def rings(house):
    """Return the ascending list of the symlinks that are on a ring."""
    resolver = Resolver(house.things)
    for link in symlinks(house):
        resolver.resolve(link)
    return sorted(resolver.on_rings)


def symlinks(house):
    """Return the list of the paths at which symlinks stand."""
    return [path for path, thing in house.entries() if thing[0] == "symlink"]


def dangers(members):
    """Return the ascending list of `(index, word)` for what is dangerous about members."""
    lasts = {member.name: index for index, member in enumerate(members)}
    found = [(index, "hidden") for index, member in enumerate(members) if lasts[member.name] != index]
    nameless = [(index, "name") for index, member in enumerate(members) if not is_path(member.name)]
    if len(nameless) > 0:
        return sorted(found + nameless)
    try:
        house = unpacked(House(), members)
    except Refused as fault:
        return sorted([*found, (fault.index, "refused")])
    resolver = Resolver(house.things)
    for link in symlinks(house):
        word = resolver.resolve(link)[0]
        if word != "path":
            found.append((lasts[link], word))
    return sorted(found)
