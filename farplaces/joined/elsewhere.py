"""A tie of a tree taken out, and one of the same length put elsewhere."""

from farplaces.trees.ways import lengths_from, walk_from


def best_change(tree):
    """Tell the least greatest length, the number of the tie and its new pair, or None."""
    apart = _lengths_apart(tree)
    changes = []
    for number in range(len(tree[1])):
        changes.extend(_changes_of(tree, number, apart))
    return min(changes, key=lambda change: change[0], default=None)


def parts_without(tree):
    """Tell for each tie, in order, the greatest lengths of the two parts without it."""
    apart = _lengths_apart(tree)
    told = []
    for number in range(len(tree[1])):
        near, far = _parts_without(tree, number, apart)
        told.append((max(near.values()), max(far.values())))
    return tuple(told)


def _lengths_apart(tree):
    """For each place a dict of how far all places are from it."""
    return {place: dict(zip(tree[0], lengths_from(tree, place))) for place in tree[0]}


def _parts_without(tree, number, apart):
    """The two parts without the tie, the one with its one first, as _reaches tells them."""
    places, ties = tree
    one = ties[number][0]
    _, found = walk_from((places, ties[:number] + ties[number + 1:]), one)
    near = [place for place in places if place in found]
    far = [place for place in places if place not in found]
    return _reaches(near, apart), _reaches(far, apart)


def _reaches(part, apart):
    """For each place of the part how far it is from its farthest there, a dict."""
    # The way of two places of one part lies in it, so it stays what it was.
    return {place: max([apart[place][there] for there in part]) for place in part}


def _changes_of(tree, number, apart):
    """All changes of that tie in order, as (greatest length then, number, one, other)."""
    places, ties = tree
    near, far = _parts_without(tree, number, apart)
    reaches = {**near, **far}
    # The farthest two lie in one of the parts, or their way goes over the new tie.
    inside = max(reaches.values())
    told = []
    for one, other in _pairs_between(places, near):
        over = reaches[one] + ties[number][2] + reaches[other]
        told.append((max(inside, over), number, one, other))
    return told


def _pairs_between(places, part):
    """All pairs in order of which just one is of the part."""
    told = []
    for number, one in enumerate(places):
        for other in places[number + 1:]:
            if (one in part) != (other in part):
                told.append((one, other))
    return told
