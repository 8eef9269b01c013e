"""Whether two lists of members are alike, and a house that tells them apart."""

from tarhouse.effects import ANYTHING, MADE_IF_MISSING, SAME, effect
from tarhouse.houses import House
from tarhouse.paths import paths_above
from tarhouse.trees import MADE

# A view is an effect as a dict, by its paths. A plan has a kind for each path
# of a house; what stands there is chosen at last.


def alike(one, other):
    """Return whether two lists of members do the same to every house."""
    return effect(one) == effect(other)


def parting_house(one, other):
    """Return a house with the fewest paths to which two lists do not do the same, or None."""
    rows = effect(one)
    others = effect(other)
    if rows == others:
        return None
    if rows is None:
        plan = needed(view_of(others))
    elif others is None:
        plan = needed(view_of(rows))
    else:
        plan = parting_plan(view_of(rows), view_of(others))
    return furnished(plan, [*one, *other])


def view_of(rows):
    """Return the view of an effect."""
    return {path: (needs, outcome) for path, needs, outcome in rows}


def needed(view):
    """Return the plan of the least house that a view does not refuse."""
    return {path: view[path][0][0] for path in view if "absent" not in view[path][0]}


def needs_at(view, path):
    """Return what may stand at any path, in a view."""
    return view[path][0] if path in view else ANYTHING


def parting_plan(one, other):
    """Return the plan of the least house that parts two views."""
    base = needed(one)
    plans = [base, needed(other)]
    if plans[0] != plans[1]:
        # Every house that is not refused has such a plan within it.
        refused = [plan for plan in plans if not admits(one, plan) or not admits(other, plan)]
        return min(refused, key=len)
    # Whatever one view alone refuses, they also leave unequal where nothing stood.
    spots = [more_for(base, path, kind) for path, kind in unequal_spots(one, other)]
    more = min(spots, key=len)
    return {**base, **more}


def admits(view, plan):
    """Return whether a view does not refuse the houses of a plan."""
    return all([plan.get(path, "absent") in view[path][0] for path in view])


def unequal_spots(one, other):
    """Return `(path, kind)` for what both views admit, but do not leave equal."""
    return [
        (path, kind)
        for path in {**one, **other}
        for kind in needs_at(one, path)
        if kind in needs_at(other, path) and left_of(one, path, kind) != left_of(other, path, kind)
    ]


def left_of(view, path, kind):
    """Return what is left at a path at which something of a kind stood."""
    outcome = view[path][1] if path in view else SAME
    if outcome == MADE_IF_MISSING:
        outcome = MADE if kind == "absent" else SAME
    return (kind,) if outcome == SAME else outcome


def more_for(base, path, kind):
    """Return what a plan needs so that a kind stands at a path."""
    if kind == "absent":
        return {}
    more = {above: "directory" for above in paths_above(path)}
    more[path] = kind
    return {other: more[other] for other in more if other not in base}


def furnished(plan, members):
    """Return the house of a plan, with things that no member leaves, all of them different."""
    taken = {member.time: True for member in members}
    # Directories that are made have the time 0.
    time = 1
    entries = []
    for path in sorted(plan):
        while time in taken:
            time += 1
        entries.append((path, thing_with(plan[path], time)))
        time += 1
    return House.of(entries)


def thing_with(kind, time):
    """Return a thing of a kind with a time."""
    if kind == "directory":
        return ("directory", 493, time)
    if kind == "file":
        return ("file", b"", 420, time)
    return ("symlink", "x", 511, time)
