"""The middle of a tree, and papers that show how great its greatest length is."""

from math import gcd

from farplaces.far.pairs import farthest
from farplaces.trees.ways import length_between, lengths_from, way_between


def farthest_of_each(tree):
    """Tell how far each place is from its farthest, in order."""
    return tuple([max(lengths_from(tree, place)) for place in tree[0]])


def middles(tree):
    """Tell the least of farthest_of_each, and all places that have it, in order."""
    reaches = farthest_of_each(tree)
    least = min(reaches)
    return least, tuple([place for place, reach in zip(tree[0], reaches) if reach == least])


def middle_point(tree):
    """Tell the point whose farthest place is nearest, and how far that one is."""
    greatest, one, other = farthest(tree)
    return _half_way(tree, one, other), _fraction(greatest, 2)


def paper_shown(tree, number, paper):
    """Tell whether the paper shows that the number is the tree's greatest length."""
    point, (one, other) = paper
    if not _is_point(tree, point):
        return False
    if one not in tree[0] or other not in tree[0]:
        return False
    if length_between(tree, one, other) != number:
        return False
    doubled = _doubled_from(tree, point)
    half = number * point[2][1]
    if doubled[one] != half or doubled[other] != half:
        return False
    return max(doubled.values()) <= half


def _half_way(tree, one, other):
    """The point amid the way from one to other, as middle_point tells it."""
    way = way_between(tree, one, other)
    gone = [length_between(tree, one, place) for place in way]
    whole = gone[-1]
    # The first place at the half of the way or behind it.
    at = len([length for length in gone if 2 * length < whole])
    there = way[at]
    if 2 * gone[at] == whole:
        return there, there, (0, 1)
    here = way[at - 1]
    if tree[0].index(here) < tree[0].index(there):
        return here, there, _fraction(whole - 2 * gone[at - 1], 2)
    return there, here, _fraction(2 * gone[at] - whole, 2)


def _fraction(above, below):
    common = gcd(above, below)
    return above // common, below // common


def _is_point(tree, point):
    """Whether it is a point of the tree, told as middle_point tells points."""
    places, ties = tree
    one, other, part = point
    if one == other:
        return one in places and part == (0, 1)
    above, below = part
    if below < 1 or gcd(above, below) != 1:
        return False
    for first, second, length in ties:
        if (first, second) in ((one, other), (other, one)):
            return 0 < above < length * below and places.index(one) < places.index(other)
    return False


def _doubled_from(tree, point):
    """How far each place is from the point, times twice the below of its part."""
    one, other, (above, below) = point
    tie = length_between(tree, one, other)
    told = {}
    for place, by_one, by_other in zip(tree[0], lengths_from(tree, one), lengths_from(tree, other)):
        # Of the ways over either end of the tie the shorter one does not turn back.
        told[place] = 2 * min(by_one * below + above, (by_other + tie) * below - above)
    return told
