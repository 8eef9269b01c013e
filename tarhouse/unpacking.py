"""Unpacking members into a house."""

from tarhouse.errors import Refused
from tarhouse.houses import kind_at
from tarhouse.members import is_path, target_of
from tarhouse.paths import paths_above
from tarhouse.trees import Tree


def unpacked(house, members):
    """Return the house that unpacking leaves."""
    tree = Tree(house)
    for index, member in enumerate(members):
        unpack(tree, index, member)
    return tree.house()


def walked(house, members):
    """Yield the houses after each member."""
    tree = Tree(house)
    for index, member in enumerate(members):
        unpack(tree, index, member)
        yield tree.house()


def unpack(tree, index, member):
    """Unpack a member into a tree; raise `Refused` if it is refused."""
    word = refusal(tree, member)
    if word != "":
        raise Refused(index, word)
    tree.put(member.name, member, target_of(member))


def refusal(tree, member):
    """Return the word for which unpacking refuses a member, or empty."""
    if not is_path(member.name):
        return "name"
    for above in paths_above(member.name):
        if kind_at(above, tree.things) not in ("", "directory"):
            return "parent"
    return tree.refusal_at(member.name, member, target_of(member))
