"""A tree that is kept while leaves come and go and lengths change."""

from farplaces.errors import NoJoin
from farplaces.far.middle import middle_point
from farplaces.far.pairs import farthest
from farplaces.trees.leaves import leaves_of, part_of
from farplaces.trees.ways import check_places


class KeptTree:
    """Begins as the tree that is handed in."""

    def __init__(self, tree):
        # Trees are tuples throughout: each deed makes a new one, told ones stay.
        self._tree = tree

    def put_leaf(self, name, place, length):
        """Put a leaf in at the place, or refuse with NoPlace or NoJoin."""
        check_places(self._tree, (place,))
        places, ties = self._tree
        if name in places:
            raise NoJoin(f"{name} is there")
        _check_length(length)
        self._tree = (places + (name,), ties + ((place, name, length),))

    def take_leaf(self, name):
        """Take the leaf out, or refuse with NoPlace or NoJoin."""
        check_places(self._tree, (name,))
        # The only place left has no tie, so it is no leaf either.
        if name not in leaves_of(self._tree):
            raise NoJoin(f"{name} is no leaf")
        self._tree = part_of(self._tree, [place for place in self._tree[0] if place != name])

    def lengthen(self, one, other, length):
        """Change the length of the two places' tie, or refuse with NoPlace or NoJoin."""
        check_places(self._tree, (one, other))
        places, ties = self._tree
        number = _number_of_tie(ties, one, other)
        if number is None:
            raise NoJoin(f"{one} and {other} have no tie")
        _check_length(length)
        first, second, _ = ties[number]
        self._tree = (places, ties[:number] + ((first, second, length),) + ties[number + 1:])

    def tree_now(self):
        """Tell the tree: what was there in its order, what came later behind it."""
        return self._tree

    def farthest_now(self):
        """Tell the greatest length, and the first pair of places so far apart."""
        return farthest(self._tree)

    def middle_now(self):
        """Tell the point whose farthest place is nearest, and how far that one is."""
        return middle_point(self._tree)


def _check_length(length):
    if length < 1:
        raise NoJoin(f"{length} is no length of a tie")


def _number_of_tie(ties, one, other):
    """The number of the two places' tie, counted from 0, or None."""
    for number, tie in enumerate(ties):
        if tie[:2] in ((one, other), (other, one)):
            return number
    return None
