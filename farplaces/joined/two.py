"""Two trees joined by a tie of a place of each."""

from farplaces.errors import NoJoin, NoPlace
from farplaces.far.middle import farthest_of_each


def joined(one, other, first, second, length):
    """Tell the tree joined at first and second, or refuse with NoJoin or NoPlace."""
    _check_unlike(one, other)
    if first not in one[0]:
        raise NoPlace(first)
    if second not in other[0]:
        raise NoPlace(second)
    return one[0] + other[0], one[1] + other[1] + ((first, second, length),)


def best_join(one, other, length):
    """Tell the least greatest length, and by which places, or refuse with NoJoin."""
    return min(_all_joins(one, other, length), key=lambda join: join[0])


def worst_join(one, other, length):
    """Tell the greatest greatest length, and by which places, or refuse with NoJoin."""
    return max(_all_joins(one, other, length), key=lambda join: join[0])


def _check_unlike(one, other):
    for name in one[0]:
        if name in other[0]:
            raise NoJoin(f"{name} is in both trees")


def _all_joins(one, other, length):
    """All joins in order, as (greatest length of the joined tree, first, second)."""
    _check_unlike(one, other)
    reaches = farthest_of_each(one)
    beyond = farthest_of_each(other)
    # The farthest two lie in one of the trees, or their way goes over the new tie.
    inside = max(max(reaches), max(beyond))
    told = []
    for first, reach in zip(one[0], reaches):
        for second, far in zip(other[0], beyond):
            told.append((max(inside, reach + length + far), first, second))
    return told
