"""Points [11] and [13], written down once more: what unpacking has to leave.

It goes another way than the program: directories hold what stands in them, a
file is one object wherever it stands, and symlinks are walked by calls.
"""

from tarhouse.houses import House
from tarhouse.members import Directory, File, Link, Sparse, Symlink, is_path


class Folder:
    def __init__(self, mode, time):
        self.mode, self.time, self.inside = mode, time, {}


class Paper:
    """A file."""

    def __init__(self, data, mode, time):
        self.told = ("file", data, mode, time)


class Arrow:
    """A symlink."""

    def __init__(self, target, mode, time):
        self.told = ("symlink", target, mode, time)


class Refusal(Exception):
    pass


class Ring(Exception):
    """A walk met a symlink again; this one."""


def grown(house):
    """The root of a house."""
    root = Folder(None, None)
    papers = {}
    for path, thing in house.entries():
        folder, last = root, path.split("/")[-1]
        for part in path.split("/")[:-1]:
            folder = folder.inside[part]
        if thing[0] == "directory":
            folder.inside[last] = Folder(*thing[1:])
        elif thing[0] == "symlink":
            folder.inside[last] = Arrow(*thing[1:])
        else:
            papers[path] = papers[thing[1]] if thing[0] == "link" else Paper(*thing[1:])
            folder.inside[last] = papers[path]
    return root


def shown(root):
    """The entries of a house."""
    found = []

    def gather(folder, front):
        for part, node in folder.inside.items():
            found.append((front + part, node))
            if isinstance(node, Folder):
                gather(node, front + part + "/")

    gather(root, "")
    entries, firsts = [], {}
    for path, node in sorted(found, key=lambda row: row[0]):
        if isinstance(node, Folder):
            entries.append((path, ("directory", node.mode, node.time)))
        elif node in firsts:
            entries.append((path, ("link", firsts[node])))
        else:
            entries.append((path, node.told))
            if isinstance(node, Paper):
                firsts[node] = path
    return entries


def walk(chain, text, met):
    """Walk a text from the last folder of a chain; `met` are the symlinks on the way.

    Returns the chain that is reached, `(part, node)` from the root on, or a word.
    """
    if text.startswith("/"):
        return "out"
    for part in text.split("/"):
        if not isinstance(chain[-1][1], Folder):
            return "missing"
        if part == "..":
            if len(chain) == 1:
                return "out"
            chain = chain[:-1]
        elif part not in ("", "."):
            node = chain[-1][1].inside.get(part)
            if node is None:
                return "missing"
            if isinstance(node, Arrow):
                if node in met:
                    raise Ring(node)
                reached = walk(chain, node.told[1], met + [node])
                if isinstance(reached, str):
                    return reached
                chain = reached
            else:
                chain = chain + [(part, node)]
    return chain


def resolution(root, text):
    """What `resolved` has to give."""
    try:
        chain = walk([("", root)], text, [])
    except Ring:
        return ("ring",)
    if isinstance(chain, str):
        return (chain,)
    return ("path", "/".join(part for part, _ in chain[1:]))


def is_on_ring(root, path):
    """Whether the symlink at a path is the first one that its walk meets again."""
    folder = root
    for part in path.split("/")[:-1]:
        folder = folder.inside[part]
    arrow = folder.inside[path.split("/")[-1]]
    try:
        walk([("", root)], path, [])
    except Ring as ring:
        return ring.args[0] is arrow
    return False


def find(root, name, makes, follows):
    """The chain of folders above a name, and its last part."""
    if not is_path(name):
        raise Refusal("name")
    *above, last = name.split("/")
    chain = [("", root)]
    made = []
    for part in above:
        node = chain[-1][1].inside.get(part)
        if isinstance(node, Arrow) and follows:
            try:
                chain = walk(chain, part, [])
            except Ring:
                raise Refusal("ring") from None
            if chain == "out":
                raise Refusal("out")
            if isinstance(chain, str) or not isinstance(chain[-1][1], Folder):
                raise Refusal("parent")
        elif node is None:
            node = Folder(493, 0)
            made.append((chain[-1][1], part, node))
            chain = chain + [(part, node)]
        elif isinstance(node, Folder):
            chain = chain + [(part, node)]
        else:
            raise Refusal("parent")
    path = "/".join([part for part, _ in chain[1:]] + [last])
    if len(path) > 250:
        raise Refusal("name")
    if makes:
        return path, chain[-1][1], last, made
    return None if made else chain[-1][1].inside.get(last)


def put(root, member, follows=False):
    """Unpack or follow a member; return the path to which it went."""
    path, folder, last, made = find(root, member.name, True, follows)
    old = folder.inside.get(last)
    if isinstance(member, Directory):
        if old is not None and not isinstance(old, Folder):
            raise Refusal("occupied")
        new = old or Folder(0, 0)
        new.mode, new.time = member.mode, member.time
    elif isinstance(old, Folder):
        raise Refusal("directory")
    elif isinstance(member, Symlink):
        new = Arrow(member.target, member.mode, member.time)
    elif isinstance(member, Link):
        try:
            new = find(root, member.target, False, follows)
        except Refusal:
            raise Refusal("target") from None
        if not isinstance(new, Paper):
            raise Refusal("target")
    else:
        new = Paper(member.content(), member.mode, member.time)
    for above, part, node in made:
        above.inside[part] = node
    folder.inside[last] = new
    return path


def left(house, members, follows=False):
    """The house that is left, or `(index, word)`; and the paths to which members went."""
    root = grown(house)
    paths = []
    for index, member in enumerate(members):
        try:
            paths.append(put(root, member, follows))
        except Refusal as refusal:
            return (index, refusal.args[0]), paths
    return House.of(shown(root)), paths


PATHS = ["a", "b", "c", "a/a", "a/b", "b/a", "b/c", "a/b/c", "c/a", "a/a/a"]
TARGETS = PATHS + [
    ".", "..", "/a", "../a", "../b", "a/..", "a//b", "a/.", "b/../a", "a/", "./c", "x", "../..", "../c/a",
]


def any_house(source, links=0.3):
    """A small house."""
    entries, files = [], []
    for path in sorted(source.sample(PATHS, source.randrange(1, 9))):
        above = path.rpartition("/")[0]
        if above and (above, "directory") not in [(other, thing[0]) for other, thing in entries]:
            continue
        choice = source.random()
        if choice < links:
            entries.append((path, ("symlink", source.choice(TARGETS), source.randrange(3), 0)))
        elif choice < links + 0.4:
            entries.append((path, ("directory", source.choice([448, 493]), source.randrange(2))))
        elif files and choice < links + 0.5:
            entries.append((path, ("link", source.choice(files))))
        else:
            entries.append((path, ("file", bytes([source.randrange(2)]), 420, 0)))
            files.append(path)
    return House.of(entries)


def any_members(source, most, names=tuple(PATHS), targets=tuple(PATHS)):
    """A small list of members."""
    found = []
    for _ in range(source.randrange(1, most + 1)):
        name = source.choice(names)
        mode = source.randrange(3)
        found.append(source.choice([
            lambda: File(name, bytes([source.randrange(3)]), mode=mode),
            lambda: Sparse(name, 3, (1, b"x"), mode=mode),
            lambda: Directory(name, mode=mode, time=source.randrange(2)),
            lambda: Symlink(name, source.choice(TARGETS), mode=mode),
            lambda: Link(name, source.choice(targets), mode=mode),
        ])())
    return found
