"""Whether two lists of members are alike, and a house that tells them apart."""

from tarhouse.effects import ANYTHING, MADE_IF_MISSING, SAME, effect
from tarhouse.houses import House
from tarhouse.paths import paths_above
from tarhouse.trees import MADE

# A view is an effect as a dict, by its paths. A plan has a kind for each path
# of a house; what stands there is chosen at last.


def alike(one, other):
    """Return whether two lists of members do the same to every house."""
    return effect(one) == effect(other)


def parting_house(one, other):
    """Return a house with the fewest paths to which two lists do not do the same, or None."""
    effects = [effect(one), effect(other)]
    if effects[0] == effects[1]:
        return None
    plan = parting_plan([view_of(rows) for rows in effects if rows is not None])
    return furnished(plan, [*one, *other])


def view_of(rows):
    """Return the view of an effect."""
    return {path: (needs, outcome) for path, needs, outcome in rows}


def parting_plan(views):
    """Return the plan of the least house that parts two views, or one from a list that is never unpacked."""
    plans = [needed(view) for view in views]
    base = min(plans, key=len)
    # Of two unequal plans, the less one lacks something that the other one has,
    # or has something of another kind: the view of the other one refuses it.
    if len(plans) == 1 or plans[0] != plans[1]:
        return base
    # What one view alone refuses, they also leave unequal where nothing stood.
    spots = [more_for(base, path, kind) for path, kind in unequal_spots(views[0], views[1])]
    more = min(spots, key=len)
    return {**base, **more}


def needed(view):
    """Return the plan of the least house that a view does not refuse."""
    return {path: view[path][0][0] for path in view if "absent" not in view[path][0]}


def unequal_spots(one, other):
    """Return `(path, kind)` for what two views do not refuse at a path, but leave unequal."""
    return [
        (path, kind)
        for path in {**one, **other}
        for kind in needs_at(one, path)
        if kind in needs_at(other, path) and left_of(one, path, kind) != left_of(other, path, kind)
    ]


def needs_at(view, path):
    """Return what may stand at any path, in a view."""
    return view[path][0] if path in view else ANYTHING


def left_of(view, path, kind):
    """Return the outcome at a path at which something of a kind stood."""
    outcome = view[path][1] if path in view else SAME
    if outcome == MADE_IF_MISSING:
        return MADE if kind == "absent" else SAME
    return outcome


def more_for(base, path, kind):
    """Return what a plan needs so that a kind stands at a path."""
    if kind == "absent":
        return {}
    more = {above: "directory" for above in paths_above(path)}
    more[path] = kind
    return {other: more[other] for other in more if other not in base}


def furnished(plan, members):
    """Return the house of a plan, with things that no member leaves, all of them different."""
    taken = {member.time: True for member in members}
    # Directories that are made have the time 0.
    time = 1
    entries = []
    for path in sorted(plan):
        while time in taken:
            time += 1
        thing = ("directory", 493, time) if plan[path] == "directory" else ("file", b"", 420, time)
        entries.append((path, thing))
        time += 1
    return House.of(entries)
