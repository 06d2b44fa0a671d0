"""Ways between places: the places on them, and their lengths."""

from farplaces.errors import NoPlace


def way_between(tree, one, other):
    """Tell the places on the way from one to other, or refuse with NoPlace."""
    check_places(tree, (one, other))
    # Walked from other, so that the steps back lead from one to it.
    back, _ = walk_from(tree, other)
    way = [one]
    while way[-1] != other:
        way.append(back[way[-1]])
    return tuple(way)


def length_between(tree, one, other):
    """Tell the length of the way from one to other, or refuse with NoPlace."""
    check_places(tree, (one, other))
    _, lengths = walk_from(tree, one)
    return lengths[other]


def lengths_from(tree, place):
    """Tell how far all places are from the place, in order, or refuse with NoPlace."""
    check_places(tree, (place,))
    _, lengths = walk_from(tree, place)
    return tuple([lengths[name] for name in tree[0]])


def check_places(tree, names):
    """Refuse with NoPlace where a name, the first one ahead, is no place of the tree."""
    for name in names:
        if name not in tree[0]:
            raise NoPlace(name)


def walk_from(tree, start):
    """Tell two dicts of all places that hang together with start, which may be in a tree's part.

    One tells the next place on the way to start, the other how long that way is.
    """
    beside = _ties_of_each(tree)
    back = {start: start}
    lengths = {start: 0}
    ahead = [start]
    while ahead:
        here = ahead.pop()
        for place, length in beside[here]:
            if place not in back:
                back[place] = here
                lengths[place] = lengths[here] + length
                ahead.append(place)
    return back, lengths


def _ties_of_each(tree):
    """For each place: the places tied to it, with the ties' lengths."""
    places, ties = tree
    beside = {place: [] for place in places}
    for one, other, length in ties:
        beside[one].append((other, length))
        beside[other].append((one, length))
    return beside
