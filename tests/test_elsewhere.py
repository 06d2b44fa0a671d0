"""Promise [16], and what [2], [3] and [5] say of it: a tie put elsewhere."""

import itertools
import unittest

from shapes import all_trees, few_trees, mixed_tree, reached, row_tree, slow_lengths
from shapes import alike_trees, some_trees, star_tree, two_arms, whole, with_lengths

from farplaces.far.pairs import farthest
from farplaces.joined.elsewhere import best_change, parts_without
from farplaces.joined.two import best_join, joined
from farplaces.trees.texts import read_tree, tree_shown

ALONE = (("a",), ())
# a -1- b -2- c -4- d
ROW = (("a", "b", "c", "d"), (("a", "b", 1), ("c", "b", 2), ("c", "d", 4)))
# A star about m, all ties alike.
STAR = (("b", "m", "c", "a"), (("a", "m", 2), ("m", "c", 2), ("m", "b", 2)))


def slow_part(tree, number, start):
    """The part with start of the tree without that tie."""
    places, ties = tree
    left = ties[:number] + ties[number + 1:]
    found = reached(left, start)
    return (tuple([place for place in places if place in found]),
            tuple([tie for tie in left if tie[0] in found]))


def greatest(tree):
    """The greatest length, over ways put together of ever more places."""
    places, ties = tree
    lengths = {(place, place): 0 for place in places}
    for one, other, length in ties:
        lengths[one, other] = lengths[other, one] = length
    for over in places:
        for one in places:
            for other in places:
                if (one, over) in lengths and (over, other) in lengths:
                    lengths.setdefault((one, other), lengths[one, over] + lengths[over, other])
    assert len(lengths) == len(places) ** 2
    return max(lengths.values())


def slow_changes(tree):
    """All changes that leave a tree, in order: the greatest length then, the tie, the pair."""
    places, ties = tree
    told = []
    for number, tie in enumerate(ties):
        left = ties[:number] + ties[number + 1:]
        for one, other in itertools.combinations(places, 2):
            changed = (places, left + ((one, other, tie[2]),))
            if whole(*changed):
                told.append((greatest(changed), number, one, other))
    return told


def first_of_least(changes):
    least = min([change[0] for change in changes])
    return [change for change in changes if change[0] == least][0]


def turned(tree):
    """The same tree with each tie told the other way about."""
    return tree[0], tuple([(other, one, length) for one, other, length in tree[1]])


class BestChange(unittest.TestCase):
    def test_of_one_place_none(self):
        self.assertIsNone(best_change(ALONE))
        self.assertIsNone(best_change((("abcdefgh",), ())))

    def test_of_two_the_tie_comes_where_it_was(self):
        for length in (1, 2, 10 ** 6):
            for tie in (("a", "b", length), ("b", "a", length)):
                self.assertEqual(best_change((("a", "b"), (tie,))), (length, 0, "a", "b"))
                self.assertEqual(best_change((("b", "a"), (tie,))), (length, 0, "b", "a"))

    def test_worked_out_by_hand(self):
        # a put on c: then b and d are 6 apart, and nothing is farther.
        self.assertEqual(best_change(ROW), (6, 0, "a", "c"))
        self.assertEqual(best_change((ROW[0][::-1], ROW[1])), (6, 0, "c", "a"))
        # With the ties turned about d is put on b first, as good.
        self.assertEqual(best_change((ROW[0], ROW[1][::-1])), (6, 0, "b", "d"))
        # Five in a row: an end put at the middle.
        tree = (tuple("abcde"), (("b", "a", 1), ("b", "c", 1), ("d", "c", 1), ("d", "e", 1)))
        self.assertEqual(best_change(tree), (3, 0, "a", "c"))
        # p and q hang on either end of a long tie: it comes to be between their middles.
        tree = (("q", "r", "s", "t", "p", "o"),
                (("q", "r", 5), ("r", "s", 5), ("s", "p", 9), ("p", "o", 3), ("o", "t", 3)))
        self.assertEqual(best_change(tree), (17, 2, "r", "o"))

    def test_where_it_was_is_best(self):
        # Nothing makes a star better; the first tie's first pair as good is its own.
        self.assertEqual(best_change(STAR), (4, 0, "m", "a"))
        self.assertEqual(best_change((("m", "b", "c", "a"), STAR[1])), (4, 0, "m", "a"))
        self.assertEqual(best_change((("a", "c", "b", "m"), STAR[1])), (4, 0, "a", "m"))
        self.assertEqual(best_change((STAR[0], STAR[1][::-1])), (4, 0, "b", "m"))

    def test_the_first_tie_and_then_the_first_pair_of_many_as_good(self):
        # Three arms of 10 about m stay 20 long, wherever s or one arm's end y hangs.
        arms = (("x", "m", 5), ("y", "x", 5), ("v", "m", 5), ("w", "v", 5), ("t", "m", 5), ("u", "t", 5))
        places = ("y", "x", "s", "w", "v", "u", "t", "m")
        self.assertEqual(best_change((places, (("m", "s", 1),) + arms)), (20, 0, "x", "s"))
        self.assertEqual(best_change((places[::-1], (("m", "s", 1),) + arms)), (20, 0, "m", "s"))
        self.assertEqual(best_change((places, arms[1:2] + (("m", "s", 1),) + arms[:1] + arms[2:])),
                         (20, 0, "y", "x"))
        # One end of the way of 40 is put nearer first, which is a tie of its own.
        tree = (("e", "d", "c", "b", "a"),
                (("c", "b", 10), ("b", "a", 10), ("c", "d", 10), ("e", "d", 10)))
        self.assertEqual(best_change(tree), (30, 0, "d", "b"))
        changes = slow_changes(with_lengths(row_tree(5), (1,)))
        least = min(changes)[0]
        self.assertGreater(len([change for change in changes if change[0] == least]), 2)
        self.assertEqual(best_change(with_lengths(row_tree(5), (1,))), first_of_least(changes))

    def test_one_is_ahead_of_other_whichever_part_they_are_in(self):
        for tree in all_trees(4, (3, 1, 2, 5)):
            for places in itertools.permutations(tree[0]):
                for ties in (tree[1], turned(tree)[1]):
                    _, _, one, other = best_change((places, ties))
                    self.assertLess(places.index(one), places.index(other))

    def test_however_the_ties_are_told(self):
        for tree in [*all_trees(5), row_tree(12), mixed_tree(30, 2), star_tree(30)]:
            self.assertEqual(best_change(turned(tree)), best_change(tree))

    def test_against_all_changes_one_by_one(self):
        trees = [*few_trees(4, (1, 2, 10 ** 6)), *all_trees(5), *all_trees(5, (1, 1, 1, 1)),
                 *all_trees(5, (2, 7, 2, 7)), *all_trees(3), *all_trees(2)]
        for tree in trees:
            for ties in (tree[1], turned(tree)[1]):
                told = best_change((tree[0], ties))
                self.assertEqual(told, first_of_least(slow_changes((tree[0], ties))))

    def test_larger_trees_against_all_changes_one_by_one(self):
        for tree in (row_tree(9), star_tree(9), mixed_tree(9, 1), mixed_tree(12, 4),
                     with_lengths(row_tree(12), (1,)), with_lengths(mixed_tree(12, 7), (10 ** 6,)),
                     with_lengths(mixed_tree(11, 3), (1, 10 ** 6)),
                     two_arms(tuple("hgfedcbaijk"), 5, 5, (1, 2))):
            self.assertEqual(best_change(tree), first_of_least(slow_changes(tree)))

    def test_the_greatest_trees(self):
        for tree in (row_tree(30), star_tree(30), mixed_tree(30, 6),
                     with_lengths(mixed_tree(30, 9), (1,)), with_lengths(row_tree(30), (10 ** 6,))):
            length, number, one, other = best_change(tree)
            places, ties = tree
            left = ties[:number] + ties[number + 1:] + ((one, other, ties[number][2]),)
            self.assertEqual(farthest((places, left))[0], length)
            least = []
            for at, tie in enumerate(ties):
                near, far = slow_part(tree, at, tie[0]), slow_part(tree, at, tie[1])
                least.append(best_join(near, far, tie[2])[0])
            self.assertEqual((length, number), (min(least), least.index(min(least))))


class Parts(unittest.TestCase):
    def test_of_one_place_none(self):
        self.assertEqual(parts_without(ALONE), ())

    def test_worked_out_by_hand(self):
        self.assertEqual(parts_without((("a", "b"), (("b", "a", 7),))), ((0, 0),))
        self.assertEqual(parts_without(ROW), ((0, 6), (4, 1), (3, 0)))
        self.assertEqual(parts_without(STAR), ((0, 4), (4, 0), (4, 0)))

    def test_the_part_with_the_one_first_whichever_way_the_tie_is_told(self):
        self.assertEqual(parts_without(turned(ROW)), ((6, 0), (1, 4), (0, 3)))
        self.assertEqual(parts_without((ROW[0][::-1], ROW[1])), ((0, 6), (4, 1), (3, 0)))
        for tree in [*all_trees(5), *alike_trees(), mixed_tree(30, 2)]:
            self.assertEqual(parts_without(turned(tree)),
                             tuple([pair[::-1] for pair in parts_without(tree)]))

    def test_in_the_order_of_the_ties(self):
        for tree in [*all_trees(4), mixed_tree(30, 8)]:
            told = parts_without(tree)
            self.assertEqual(parts_without((tree[0], tree[1][::-1])), told[::-1])
            self.assertEqual(parts_without((tree[0][::-1], tree[1])), told)

    def test_against_all_ways_one_by_one(self):
        for tree in [*few_trees(4, (1, 2)), *all_trees(5), *all_trees(3), *all_trees(2)]:
            told = []
            for number, (one, other, _) in enumerate(tree[1]):
                told.append((greatest(slow_part(tree, number, one)),
                             greatest(slow_part(tree, number, other))))
            self.assertEqual(parts_without(tree), tuple(told))

    def test_larger_trees_against_all_ways_one_by_one(self):
        for tree in some_trees():
            lengths = slow_lengths(tree)
            told = []
            for number, (one, other, _) in enumerate(tree[1]):
                parts = [slow_part(tree, number, start)[0] for start in (one, other)]
                told.append(tuple([max([lengths[pair] for pair in itertools.product(part, part)])
                                   for part in parts]))
            self.assertEqual(parts_without(tree), tuple(told))


class Kinds(unittest.TestCase):
    def test_kinds(self):
        for tree in (ROW, STAR, mixed_tree(30, 1)):
            told = best_change(tree)
            self.assertIs(type(told), tuple)
            self.assertEqual([type(part) for part in told], [int, int, str, str])
            parts = parts_without(tree)
            self.assertIs(type(parts), tuple)
            for pair in parts:
                self.assertIs(type(pair), tuple)
                self.assertEqual([type(part) for part in pair], [int, int])
        self.assertEqual(repr(parts_without(ALONE)), "()")

    def test_what_is_handed_in_stays_and_the_same_is_told_again(self):
        tree = mixed_tree(30, 3)
        before = repr(tree)
        first = (best_change(tree), parts_without(tree))
        best_change(ROW)
        parts_without(STAR)
        self.assertEqual((best_change(tree), parts_without(tree)), first)
        self.assertEqual(repr(tree), before)

    def test_what_is_told_may_be_handed_on(self):
        tree = read_tree(tree_shown(ROW))
        self.assertEqual(best_change(tree), best_change(ROW))
        # Two rows joined by their ends: 60 places.
        left = with_lengths(row_tree(30), (1,))
        right = (tuple(["v" + name[:7] for name in left[0]]),
                 tuple([("v" + one[:7], "v" + other[:7], 1) for one, other, _ in left[1]]))
        tree = joined(left, right, left[0][-1], right[0][0], 3)
        self.assertEqual(len(tree[0]), 60)
        self.assertEqual(parts_without(tree)[-1], (29, 29))
        # Without the first one's last tie 28 and 32 are left, and a tie of 1 for their middles.
        self.assertEqual(best_change(tree), (32, 28, left[0][13], right[0][13]))


if __name__ == "__main__":
    unittest.main()
