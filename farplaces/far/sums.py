"""What the ways of a tree come to together."""

from farplaces.far.pairs import pairs_in_order
from farplaces.trees.ways import lengths_from


def sums_from(tree):
    """Tell for each place, in order, what the ways to all others come to."""
    return tuple([sum(lengths_from(tree, place)) for place in tree[0]])


def least_sums(tree):
    """Tell the places whose sum is the least, in order."""
    sums = sums_from(tree)
    least = min(sums)
    return tuple([place for place, found in zip(tree[0], sums) if found == least])


def total_of(tree):
    """Tell what all ways of two places, each two once, come to."""
    return sum([pair[0] for pair in pairs_in_order(tree)])


def pairs_by_length(tree):
    """Tell how many pairs of places are of each length, lengths rising."""
    told = {}
    for length in sorted([pair[0] for pair in pairs_in_order(tree)]):
        told[length] = told.get(length, 0) + 1
    return told
