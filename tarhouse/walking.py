"""Walking texts through a house, and resolving its symlinks on the way."""

from tarhouse.houses import kind_at
from tarhouse.paths import directory_of, joined


class Walk:
    """A text that is walked: the place that is reached, and how many parts are taken."""

    def __init__(self, link, place, text):
        self.link = link
        self.place = place
        self.parts = text.split("/")
        self.taken = 0
        self.result = ("out",) if text.startswith("/") else None

    def go_up(self):
        """Go to the directory above."""
        if self.place == "":
            self.result = ("out",)
        else:
            self.place = directory_of(self.place)

    def go_to(self, result):
        """Go to the path that something resolves to, or end as it does."""
        if result[0] == "path":
            self.place = result[1]
        else:
            self.result = result


class Resolver:
    """What the symlinks of a house resolve to, each of which is walked once.

    The walks that need one another stand in a list: a house may have chains of
    more symlinks than Python has room for calls.
    """

    def __init__(self, things):
        self.things = things
        # The result of each symlink, None while it is walked.
        self.results = {}
        self.on_rings = []

    def resolve(self, text):
        """Walk a text from the root; return the result."""
        asked = Walk("", "", text)
        walks = [asked]
        while asked.result is None:
            needed = self.go_on(walks[-1])
            if needed == "":
                walk = walks.pop()
                self.results[walk.link] = walk.result
            elif needed in self.results:
                self.close_ring(walks, needed)
            else:
                self.results[needed] = None
                walks.append(Walk(needed, directory_of(needed), self.things[needed][1]))
        return asked.result

    def close_ring(self, walks, needed):
        """End the walks of a ring: all from the one that the last one needs."""
        link = ""
        while link != needed:
            link = walks.pop().link
            self.results[link] = ("ring",)
            self.on_rings.append(link)

    def go_on(self, walk):
        """Walk until the end, or return the symlink that has to be walked before."""
        while walk.result is None:
            if walk.taken == len(walk.parts):
                walk.result = ("path", walk.place)
            else:
                needed = self.take_part(walk)
                if needed != "":
                    return needed
        return ""

    def take_part(self, walk):
        """Take the next part, or return the symlink that has to be walked before."""
        part = walk.parts[walk.taken]
        path = joined(walk.place, part)
        kind = kind_at(path, self.things)
        if kind_at(walk.place, self.things) == "file":
            walk.result = ("missing",)
        elif part == "..":
            walk.go_up()
        elif part not in ("", "."):
            result = ("path", path) if kind != "" else ("missing",)
            if kind == "symlink":
                result = self.results.get(path)
            if result is None:
                return path
            walk.go_to(result)
        walk.taken += 1
        return ""
