"""The leaves of a tree, and the fewest places that are near to all."""

from farplaces.trees.ways import lengths_from, way_between


def leaves_of(tree):
    """Tell all places with one tie, in order."""
    places, ties = tree
    ends = [end for tie in ties for end in tie[:2]]
    return tuple([place for place in places if ends.count(place) == 1])


def without_leaves(tree):
    """Tell the tree without its leaves, one of at most two places as it is."""
    if len(tree[0]) <= 2:
        return tree
    leaves = leaves_of(tree)
    return part_of(tree, [place for place in tree[0] if place not in leaves])


def peeled(tree):
    """List the tree, it without its leaves, and so on till one is of at most two places."""
    told = [tree]
    while len(told[-1][0]) > 2:
        told.append(without_leaves(told[-1]))
    return told


def part_of(tree, places):
    """Tell the tree of those of its places that are told, and of the ties among them, in order."""
    kept = tuple([place for place in tree[0] if place in places])
    return kept, tuple([tie for tie in tree[1] if tie[0] in kept and tie[1] in kept])


def fewest_within(tree, length):
    """Tell the fewest places, first by their order, such that each place is so near to one."""
    near = {place: _places_near(tree, place, length) for place in tree[0]}
    helpers = _helpers(tree, near)
    fewest = _fewest_with([], near, helpers)
    chosen = []
    for place in tree[0]:
        # Of as few places, those with the place ahead come first by their order.
        if _fewest_with([*chosen, place], near, helpers) == fewest:
            chosen.append(place)
    return tuple(chosen)


def _places_near(tree, place, length):
    """All places within the length of the place, in order; it is always near to itself."""
    lengths = lengths_from(tree, place)
    return [other for other, apart in zip(tree[0], lengths) if other == place or apart <= length]


def _helpers(tree, near):
    """All places with a helper, those farthest from the first place ahead.

    The helper is the last place on the way to the first that is near. Where all
    places ahead are seen to, none is better: it is near to all of the others
    that any place near to this one is near to.
    """
    first = tree[0][0]
    told = []
    for _, place in sorted(zip(lengths_from(tree, first), tree[0]), reverse=True):
        on_way = [there for there in way_between(tree, place, first) if there in near[place]]
        told.append((place, on_way[-1]))
    return told


def _fewest_with(chosen, near, helpers):
    """How many places it takes at least, the chosen ones among them."""
    taken = list(chosen)
    for place, helper in helpers:
        if not any([there in near[place] for there in taken]):
            taken.append(helper)
    return len(taken)
