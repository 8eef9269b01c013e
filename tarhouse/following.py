"""Following: what systems do that write through symlinks."""

from tarhouse.errors import Refused
from tarhouse.houses import kind_at
from tarhouse.members import MOST_CHARACTERS, Link, is_path
from tarhouse.paths import joined
from tarhouse.trees import Tree
from tarhouse.walking import Resolver


def followed(house, members):
    """Return the house that following leaves."""
    tree = Tree(house)
    for index, member in enumerate(members):
        word, path = follow(tree, member)
        if word != "":
            raise Refused(index, word)
    return tree.house()


def strays(house, members):
    """Return `(index, path)` for the members that go to another path than their name."""
    tree = Tree(house)
    found = []
    for index, member in enumerate(members):
        word, path = follow(tree, member)
        if word != "":
            return found
        if path != member.name:
            found.append((index, path))
    return found


def follow(tree, member):
    """Put a member where following does; return the word of a refusal, and the path."""
    word, path = reached(tree.things, member.name)
    if word != "":
        return word, ""
    # What is not reached is the root for now, at which no file stands.
    target = reached(tree.things, member.target)[1] if isinstance(member, Link) else ""
    word = tree.refusal_at(path, member, target)
    if word == "":
        tree.put(path, member, target)
    return word, path


def reached(things, name):
    """Return the word for which a name is refused, and the path that it reaches."""
    if not is_path(name):
        return "name", ""
    resolver = Resolver(things)
    place = ""
    parts = name.split("/")
    for part in parts[:-1]:
        word, place = entered(resolver, joined(place, part))
        if word != "":
            return word, ""
    path = joined(place, parts[-1])
    return ("", path) if len(path) <= MOST_CHARACTERS else ("name", "")


def entered(resolver, path):
    """Return the word for which a path leads to no directory, and where it leads.

    What is missing counts as a directory: it will be made.
    """
    if kind_at(path, resolver.things) == "":
        return "", path
    result = resolver.resolve(path)
    if result[0] in ("out", "ring"):
        return result[0], ""
    if result[0] == "missing" or kind_at(result[1], resolver.things) == "file":
        return "parent", ""
    return "", result[1]
