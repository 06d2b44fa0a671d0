"""Promises [14] and [15], and what [2], [3] and [5] say of them: trees joined."""

import unittest

from shapes import all_trees, mixed_tree, row_tree, slow_lengths, star_tree, whole, with_lengths

from farplaces.errors import FarError, NoJoin, NoPlace
from farplaces.far.middle import farthest_of_each, middle_point, middles, paper_shown
from farplaces.far.pairs import all_farthest, count_so_far, farthest, nth_farthest
from farplaces.far.sums import least_sums, pairs_by_length, sums_from, total_of
from farplaces.joined.two import best_join, joined, worst_join
from farplaces.trees.texts import read_tree, tree_shown
from farplaces.trees.ways import length_between, lengths_from, way_between

ALONE = (("a",), ())
LEFT = (("c", "a", "b"), (("b", "a", 3), ("a", "c", 5)))
RIGHT = (("z", "x"), (("x", "z", 4),))
# Of the shape of LEFT, with other names.
OTHER = (("x", "y", "w"), (("y", "x", 5), ("w", "y", 3)))
# A long row, and a short one that may hang anywhere about its middle.
LONG = (("a", "b", "c", "d", "e"), (("b", "a", 10), ("b", "c", 10), ("c", "d", 10), ("e", "d", 10)))
SHORT = (("q", "p"), (("p", "q", 2),))


def renamed(tree):
    """The same tree with other names, of which none is in the trees of shapes."""
    places, ties = tree
    other = {place: "jtkq"[k // 20] + "vwxyz"[k % 5] + "abcd"[k // 5 % 4]
             for k, place in enumerate(places)}
    return (tuple([other[place] for place in places]),
            tuple([(other[first], other[second], length) for first, second, length in ties]))


def slow_joins(one, other, length):
    """All joins in order: the greatest length, and the two places."""
    told = []
    for first in one[0]:
        for second in other[0]:
            tree = (one[0] + other[0], one[1] + other[1] + ((first, second, length),))
            told.append((max(slow_lengths(tree).values()), first, second))
    return told


def two_trees():
    """Pairs of trees of many shapes."""
    for many in (1, 2, 3, 4):
        for lengths in ((1, 1, 1), (2, 1, 5), (7, 7, 1)):
            left = list(all_trees(many, lengths))[-3:]
            for few in (1, 2, 3):
                for right in list(all_trees(few, (3, 1)))[:2]:
                    for tree in left:
                        yield tree, renamed(right)
                        yield renamed(right), tree
    yield mixed_tree(9, 2), renamed(with_lengths(mixed_tree(7, 5), (1, 2)))
    yield with_lengths(star_tree(8), (4,)), renamed(with_lengths(row_tree(6), (1,)))


class Joined(unittest.TestCase):
    def test_worked_out_by_hand(self):
        self.assertEqual(
            joined(LEFT, RIGHT, "a", "x", 9),
            (("c", "a", "b", "z", "x"),
             (("b", "a", 3), ("a", "c", 5), ("x", "z", 4), ("a", "x", 9))))
        self.assertEqual(
            joined(RIGHT, LEFT, "z", "b", 10 ** 6),
            (("z", "x", "c", "a", "b"),
             (("x", "z", 4), ("b", "a", 3), ("a", "c", 5), ("z", "b", 10 ** 6))))

    def test_places_alone(self):
        self.assertEqual(joined(ALONE, (("b",), ()), "a", "b", 1), (("a", "b"), (("a", "b", 1),)))
        self.assertEqual(joined((("b",), ()), ALONE, "b", "a", 2), (("b", "a"), (("b", "a", 2),)))
        self.assertEqual(joined(ALONE, RIGHT, "a", "z", 1),
                         (("a", "z", "x"), (("x", "z", 4), ("a", "z", 1))))

    def test_trees_of_many_shapes(self):
        for one, other in two_trees():
            first, second = one[0][len(one[0]) // 2], other[0][-1]
            told = joined(one, other, first, second, 6)
            self.assertEqual(told[0], one[0] + other[0])
            self.assertEqual(told[1][:-1], one[1] + other[1])
            self.assertEqual(told[1][-1], (first, second, 6))
            self.assertEqual(length_between(told, first, second), 6)
            self.assertTrue(whole(*told))

    def test_what_is_told_may_be_handed_on(self):
        one, other = mixed_tree(30, 4), renamed(mixed_tree(30, 11))
        tree = joined(one, other, one[0][7], other[0][20], 10 ** 6)
        self.assertEqual(len(tree[0]), 60)
        self.assertEqual(read_tree(tree_shown(tree)), tree)
        lengths = slow_lengths(tree)
        greatest, first, second = farthest(tree)
        self.assertEqual(greatest, max(lengths.values()))
        self.assertEqual(all_farthest(tree)[0], (first, second))
        self.assertEqual(nth_farthest(tree, 0), (greatest, first, second))
        self.assertEqual(sum(count_so_far(tree, 10 ** 6)),
                         len([1 for length in lengths.values() if length >= 10 ** 6]) // 2)
        point, _ = middle_point(tree)
        self.assertIs(paper_shown(tree, greatest, (point, (first, second))), True)
        self.assertEqual(min(farthest_of_each(tree)), middles(tree)[0])
        self.assertEqual(sum(sums_from(tree)), 2 * total_of(tree))
        self.assertEqual(total_of(tree), sum(lengths.values()) // 2)
        self.assertEqual(sum(pairs_by_length(tree).values()), 1770)
        self.assertIn(least_sums(tree)[0], tree[0])
        self.assertEqual(way_between(tree, first, second)[-1], second)
        self.assertEqual(lengths_from(tree, first)[tree[0].index(second)], greatest)
        again = joined(tree, (("only",), ()), second, "only", 1)
        self.assertEqual(farthest(again), (greatest + 1, first, "only"))

    def test_a_joined_tree_may_be_joined_again(self):
        tree = joined(LEFT, RIGHT, "a", "x", 9)
        self.assertEqual(joined(ALONE, joined(RIGHT, SHORT, "z", "p", 1), "a", "q", 2)[0],
                         ("a", "z", "x", "q", "p"))
        self.assertEqual(best_join(tree, SHORT, 1), (18, "a", "q"))
        self.assertEqual(worst_join(tree, SHORT, 1), (21, "c", "q"))


class Best(unittest.TestCase):
    def test_worked_out_by_hand(self):
        # LEFT is 5 from a to its farthest, 8 from c and b; RIGHT 4 from both.
        self.assertEqual(best_join(LEFT, RIGHT, 9), (18, "a", "z"))
        self.assertEqual(best_join(RIGHT, LEFT, 9), (18, "z", "a"))
        self.assertEqual(worst_join(LEFT, RIGHT, 9), (21, "c", "z"))
        self.assertEqual(worst_join(RIGHT, LEFT, 9), (21, "z", "c"))
        tree = (("p", "q", "r"), (("q", "p", 1), ("q", "r", 1)))
        self.assertEqual(best_join(LEFT, tree, 10 ** 6), (10 ** 6 + 6, "a", "q"))
        self.assertEqual(worst_join(LEFT, tree, 10 ** 6), (10 ** 6 + 10, "c", "p"))

    def test_places_alone(self):
        for length in (1, 5, 10 ** 6):
            told = (length, "a", "b")
            self.assertEqual(best_join(ALONE, (("b",), ()), length), told)
            self.assertEqual(worst_join(ALONE, (("b",), ()), length), told)
        self.assertEqual(best_join(ALONE, OTHER, 1), (8, "a", "y"))
        self.assertEqual(worst_join(ALONE, OTHER, 1), (9, "a", "x"))
        self.assertEqual(best_join(OTHER, ALONE, 4), (9, "y", "a"))

    def test_the_first_of_all_that_are_as_good(self):
        # Any of b, c and d leaves the row of 40 the longest; b is not its middle.
        self.assertEqual(best_join(LONG, SHORT, 1), (40, "b", "q"))
        self.assertEqual(best_join(LONG, SHORT, 8), (40, "b", "q"))
        self.assertEqual(best_join(LONG, SHORT, 9), (40, "c", "q"))
        self.assertEqual(best_join(SHORT, LONG, 8), (40, "q", "b"))
        self.assertEqual(best_join(SHORT, LONG, 18), (40, "q", "c"))
        self.assertEqual(best_join(SHORT, LONG, 19), (41, "q", "c"))
        self.assertEqual(worst_join(LONG, SHORT, 1), (43, "a", "q"))
        turned = (LONG[0][::-1], LONG[1][::-1])
        self.assertEqual(best_join(turned, SHORT, 1), (40, "d", "q"))
        self.assertEqual(worst_join(turned, SHORT, 1), (43, "e", "q"))

    def test_a_place_that_is_only_as_good_in_the_other_tree(self):
        # With the longest in the other tree every place of the first may do.
        self.assertEqual(best_join(RIGHT, LONG, 1), (40, "z", "b"))
        self.assertEqual(best_join(LONG, RIGHT, 1), (40, "b", "z"))
        self.assertEqual(best_join(LONG, (("m", "z"), (("m", "z", 1),)), 1), (40, "b", "m"))
        tree = (("x", "y", "z"), (("y", "x", 4), ("y", "z", 4)))
        self.assertEqual(best_join(LONG, tree, 1), (40, "b", "x"))
        self.assertEqual(best_join(LONG, tree, 3), (40, "b", "y"))
        self.assertEqual(best_join(LONG, tree, 7), (40, "c", "x"))

    def test_against_all_joins_one_by_one(self):
        for one, other in two_trees():
            for length in (1, 3, 10, 10 ** 6):
                joins = slow_joins(one, other, length)
                least = min([join[0] for join in joins])
                greatest = max([join[0] for join in joins])
                self.assertEqual(best_join(one, other, length),
                                 [join for join in joins if join[0] == least][0])
                self.assertEqual(worst_join(one, other, length),
                                 [join for join in joins if join[0] == greatest][0])

    def test_what_is_told_holds_of_the_joined_tree(self):
        for seed in range(4):
            one, other = mixed_tree(30, seed), renamed(mixed_tree(30, seed + 7))
            for ask in (best_join, worst_join):
                greatest, first, second = ask(one, other, 5)
                tree = joined(one, other, first, second, 5)
                self.assertEqual(farthest(tree)[0], greatest)


class Refused(unittest.TestCase):
    def check_no_join(self, ask, *told):
        for _ in range(2):
            with self.assertRaises(ValueError) as caught:
                ask(*told)
            self.assertIs(type(caught.exception), NoJoin)
            self.assertIsInstance(caught.exception, FarError)
            self.assertIs(type(str(caught.exception)), str)

    def check_no_place(self, name, *told):
        for _ in range(2):
            with self.assertRaises(ValueError) as caught:
                joined(*told)
            self.assertIs(type(caught.exception), NoPlace)
            self.assertIsInstance(caught.exception, FarError)
            self.assertEqual(caught.exception.name, name)

    def test_a_name_that_is_in_both(self):
        for other in (LEFT, ALONE, (("z", "b"), (("z", "b", 1),)), (("b", "z"), (("z", "b", 1),))):
            self.check_no_join(joined, LEFT, other, "a", other[0][0], 1)
            self.check_no_join(joined, other, LEFT, other[0][-1], "b", 1)
            self.check_no_join(best_join, LEFT, other, 1)
            self.check_no_join(best_join, other, LEFT, 10 ** 6)
            self.check_no_join(worst_join, LEFT, other, 1)
            self.check_no_join(worst_join, other, LEFT, 10 ** 6)
        self.check_no_join(joined, ALONE, ALONE, "a", "a", 1)
        self.check_no_join(best_join, ALONE, ALONE, 1)
        tree = row_tree(30)
        self.check_no_join(worst_join, tree, ((tree[0][29],), ()), 1)
        self.check_no_join(best_join, ((tree[0][29],), ()), tree, 1)

    def test_a_name_that_is_in_both_is_refused_ahead_of_places(self):
        for first in ("a", "q", "z"):
            for second in ("b", "q", "c"):
                self.check_no_join(joined, LEFT, (("z", "b"), (("z", "b", 1),)), first, second, 1)

    def test_a_place_that_is_none(self):
        self.check_no_place("q", LEFT, RIGHT, "q", "x", 1)
        self.check_no_place("q", LEFT, RIGHT, "a", "q", 1)
        self.check_no_place("q", LEFT, RIGHT, "q", "r", 1)
        self.check_no_place("r", LEFT, RIGHT, "r", "q", 1)
        self.check_no_place("q", LEFT, RIGHT, "q", "q", 1)

    def test_a_place_of_the_wrong_tree(self):
        self.check_no_place("x", LEFT, RIGHT, "x", "z", 1)
        self.check_no_place("x", LEFT, RIGHT, "x", "a", 1)
        self.check_no_place("b", LEFT, RIGHT, "a", "b", 1)
        self.check_no_place("a", LEFT, RIGHT, "a", "a", 1)

    def test_names_that_are_only_near_are_not_in_both(self):
        one, other = (("ab", "c"), (("ab", "c", 1),)), (("a", "b"), (("a", "b", 1),))
        self.assertEqual(joined(one, other, "c", "a", 1)[0], ("ab", "c", "a", "b"))
        self.assertEqual(joined(other, one, "b", "ab", 1)[0], ("a", "b", "ab", "c"))
        self.check_no_place("a", one, other, "a", "b", 1)
        self.check_no_place("ab", one, other, "c", "ab", 1)

    def test_a_refusal_changes_nothing_for_later_asking(self):
        before = repr((LEFT, RIGHT))
        self.check_no_join(joined, LEFT, LEFT, "a", "b", 1)
        self.check_no_place("q", LEFT, RIGHT, "q", "x", 1)
        self.assertEqual(repr((LEFT, RIGHT)), before)
        self.assertEqual(best_join(LEFT, RIGHT, 9), (18, "a", "z"))


class Kinds(unittest.TestCase):
    def test_kinds(self):
        tree = joined(LEFT, RIGHT, "a", "x", 9)
        self.assertEqual([type(part) for part in (tree, *tree)], [tuple, tuple, tuple])
        for tie in tree[1]:
            self.assertIs(type(tie), tuple)
            self.assertEqual([type(part) for part in tie], [str, str, int])
        for told in (best_join(LEFT, RIGHT, 9), worst_join(LEFT, RIGHT, 9)):
            self.assertIs(type(told), tuple)
            self.assertEqual([type(part) for part in told], [int, str, str])

    def test_what_is_handed_in_stays_and_the_same_is_told_again(self):
        one, other = mixed_tree(30, 3), renamed(mixed_tree(30, 8))
        before = repr((one, other))
        told = []
        for _ in range(2):
            told.append((joined(one, other, one[0][3], other[0][5], 4),
                         best_join(one, other, 4), worst_join(one, other, 4)))
            joined(LEFT, RIGHT, "a", "x", 9)
            best_join(LEFT, RIGHT, 9)
        self.assertEqual(told[0], told[1])
        self.assertEqual(repr((one, other)), before)


if __name__ == "__main__":
    unittest.main()
