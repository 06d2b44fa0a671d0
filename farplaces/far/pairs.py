"""Pairs of places by how far apart they are."""

from farplaces.trees.ways import lengths_from


def farthest(tree):
    """Tell the greatest length, and the first pair of places so far apart."""
    first = tree[0][0]
    told = (0, first, first)
    for pair in pairs_in_order(tree):
        if pair[0] > told[0]:
            told = pair
    return told


def all_farthest(tree):
    """Tell all pairs of places that are farthest apart, in order."""
    greatest = farthest(tree)[0]
    pairs = pairs_in_order(tree)
    return tuple([(one, other) for length, one, other in pairs if length == greatest])


def nth_farthest(tree, place):
    """Tell the so-manieth of all pairs, farthest first, counted from 0, or None."""
    # Sorting keeps the order of pairs that are equally far apart.
    pairs = sorted(pairs_in_order(tree), key=lambda pair: -pair[0])
    if 0 <= place < len(pairs):
        return pairs[place]
    return None


def count_so_far(tree, length):
    """Tell how many pairs are just so far apart, and how many are farther."""
    lengths = [pair[0] for pair in pairs_in_order(tree)]
    return lengths.count(length), len([found for found in lengths if found > length])


def pairs_in_order(tree):
    """List all pairs of two places in their order, as (length, one, other)."""
    places = tree[0]
    told = []
    for number, one in enumerate(places):
        lengths = lengths_from(tree, one)
        for behind in range(number + 1, len(places)):
            told.append((lengths[behind], one, places[behind]))
    return told
