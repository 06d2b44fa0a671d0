"""Promises [17] and [18], and what [2], [3] and [5] say of them: leaves, and few places."""

import itertools
import unittest

from shapes import all_trees, few_trees, mixed_tree, names, row_tree, slow_lengths, some_trees
from shapes import alike_trees, star_tree, two_arms, whole, with_lengths

from farplaces.far.pairs import farthest
from farplaces.joined.elsewhere import best_change
from farplaces.kept import KeptTree
from farplaces.trees.leaves import fewest_within, leaves_of, peeled, without_leaves
from farplaces.trees.texts import read_tree, tree_shown
from farplaces.trees.ways import lengths_from

ALONE = (("a",), ())
TWO = (("b", "a"), (("a", "b", 7),))
# c, d, e and f hang on a and b, which are tied.
SIX = (
    ("f", "a", "d", "b", "c", "e"),
    (("a", "c", 3), ("d", "a", 4), ("b", "a", 10), ("e", "b", 5), ("b", "f", 6)),
)
# a -1- b -2- c -4- d -8- e
ROW = (
    ("a", "b", "c", "d", "e"),
    (("a", "b", 1), ("c", "b", 2), ("c", "d", 4), ("e", "d", 8)),
)


def slow_leaves(tree):
    """The places that are named just once among the ties."""
    places, ties = tree
    told = []
    for place in places:
        if len([tie for tie in ties if place in tie[:2]]) == 1:
            told.append(place)
    return tuple(told)


def choices(places):
    """All choices of places, those of fewer ahead, alike ones by their order."""
    for many in range(1, len(places) + 1):
        yield from itertools.combinations(places, many)


def slow_fewest(tree, length):
    """The first of all choices that does."""
    places, lengths = tree[0], slow_lengths(tree)
    for chosen in choices(places):
        if all(any(lengths[place, there] <= length for there in chosen) for place in places):
            return chosen
    raise AssertionError("none does")


class Leaves(unittest.TestCase):
    def test_of_one_place_none(self):
        self.assertEqual(leaves_of(ALONE), ())
        self.assertEqual(leaves_of((("abcdefgh",), ())), ())

    def test_of_two_both_in_order(self):
        self.assertEqual(leaves_of(TWO), ("b", "a"))
        self.assertEqual(leaves_of((("a", "b"), TWO[1])), ("a", "b"))

    def test_worked_out_by_hand(self):
        self.assertEqual(leaves_of(SIX), ("f", "d", "c", "e"))
        self.assertEqual(leaves_of((SIX[0][::-1], SIX[1][::-1])), ("e", "c", "d", "f"))
        self.assertEqual(leaves_of(ROW), ("a", "e"))
        near = (("ab", "a", "b"), (("a", "ab", 1), ("ab", "b", 1)))
        self.assertEqual(leaves_of(near), ("a", "b"))

    def test_of_a_star_and_of_a_row(self):
        for many in (3, 4, 30, 60):
            places = star_tree(many)[0]
            self.assertEqual(leaves_of(star_tree(many)), places[:-1])
            self.assertEqual(leaves_of(row_tree(many)), (places[0], places[-1]))

    def test_places_with_one_tie(self):
        for tree in [*some_trees(), *alike_trees()]:
            self.assertEqual(leaves_of(tree), slow_leaves(tree))


class Without(unittest.TestCase):
    def test_at_most_two_places_stay(self):
        for tree in (ALONE, TWO, (("a", "b"), TWO[1]), (("b", "a"), (("b", "a", 10 ** 6),))):
            self.assertEqual(without_leaves(tree), tree)

    def test_worked_out_by_hand(self):
        self.assertEqual(without_leaves(SIX), (("a", "b"), (("b", "a", 10),)))
        self.assertEqual(without_leaves((SIX[0][::-1], SIX[1][::-1])),
                         (("b", "a"), (("b", "a", 10),)))
        self.assertEqual(without_leaves(ROW), (("b", "c", "d"), (("c", "b", 2), ("c", "d", 4))))
        three = (("x", "y", "z"), (("y", "x", 1), ("y", "z", 2)))
        self.assertEqual(without_leaves(three), (("y",), ()))

    def test_of_a_star_one_is_left_and_of_a_row_two_less(self):
        for many in (3, 4, 30, 60):
            places, ties = row_tree(many)
            self.assertEqual(without_leaves(star_tree(many)), ((star_tree(many)[0][-1],), ()))
            self.assertEqual(without_leaves(row_tree(many)), (places[1:-1], ties[1:-1]))

    def test_the_others_and_their_ties_in_order(self):
        for tree in [*some_trees(), *alike_trees()]:
            places, ties = tree
            if len(places) > 2:
                gone = slow_leaves(tree)
                told = without_leaves(tree)
                self.assertEqual(told[0], tuple([place for place in places if place not in gone]))
                self.assertEqual(told[1], tuple([tie for tie in ties
                                                 if not {tie[0], tie[1]} & set(gone)]))
                self.assertTrue(whole(*told))
                self.assertEqual(len(told[1]), len(told[0]) - 1)


class Peeled(unittest.TestCase):
    def test_at_most_two_places(self):
        self.assertEqual(peeled(ALONE), [ALONE])
        self.assertEqual(peeled(TWO), [TWO])

    def test_worked_out_by_hand(self):
        self.assertEqual(peeled(SIX), [SIX, (("a", "b"), (("b", "a", 10),))])
        self.assertEqual(peeled(ROW), [ROW, (("b", "c", "d"), (("c", "b", 2), ("c", "d", 4))),
                                       (("c",), ())])

    def test_rows_and_stars(self):
        for many in (3, 4, 5, 29, 30, 60):
            told = peeled(row_tree(many))
            self.assertEqual([len(tree[0]) for tree in told],
                             list(range(many, 2 - many % 2, -2)) + [2 - many % 2])
            self.assertEqual(len(peeled(star_tree(many))), 2)

    def test_the_tree_first_and_each_without_the_leaves_of_the_one_ahead(self):
        for tree in [*some_trees(), *alike_trees()]:
            told = peeled(tree)
            self.assertEqual(told[0], tree)
            for ahead, behind in zip(told, told[1:]):
                self.assertGreater(len(ahead[0]), 2)
                self.assertEqual(behind, without_leaves(ahead))
            self.assertLessEqual(len(told[-1][0]), 2)

    def test_the_list_is_the_asker_s_own(self):
        first = peeled(ROW)
        first.append("more")
        del first[0]
        self.assertEqual([len(tree[0]) for tree in peeled(ROW)], [5, 3, 1])
        alone = peeled(ALONE)
        alone.clear()
        self.assertEqual(peeled(ALONE), [ALONE])
        self.assertIsNot(peeled(TWO), peeled(TWO))


class Fewest(unittest.TestCase):
    def test_worked_out_by_hand(self):
        self.assertEqual(fewest_within(ALONE, 0), ("a",))
        self.assertEqual(fewest_within(ALONE, 10 ** 8), ("a",))
        self.assertEqual(fewest_within(TWO, 6), ("b", "a"))
        self.assertEqual(fewest_within(TWO, 7), ("b",))
        self.assertEqual(fewest_within((("a", "b"), TWO[1]), 7), ("a",))
        # a -1- b -2- c -4- d -8- e
        self.assertEqual(fewest_within(ROW, 1), ("a", "c", "d", "e"))
        self.assertEqual(fewest_within(ROW, 2), ("b", "d", "e"))
        self.assertEqual(fewest_within(ROW, 3), ("a", "d", "e"))
        self.assertEqual(fewest_within(ROW, 6), ("b", "e"))
        self.assertEqual(fewest_within(ROW, 7), ("a", "e"))
        self.assertEqual(fewest_within(ROW, 8), ("d",))
        self.assertEqual(fewest_within(ROW, 11), ("d",))
        self.assertEqual(fewest_within(ROW, 12), ("c",))
        self.assertEqual(fewest_within(ROW, 14), ("b",))
        self.assertEqual(fewest_within(ROW, 15), ("a",))
        self.assertEqual(fewest_within(SIX, 4), ("f", "a", "b", "e"))
        self.assertEqual(fewest_within(SIX, 5), ("f", "a", "b"))
        self.assertEqual(fewest_within(SIX, 6), ("a", "b"))
        self.assertEqual(fewest_within(SIX, 10), ("a", "b"))
        self.assertEqual(fewest_within(SIX, 11), ("f", "a"))

    def test_length_0_takes_all_places(self):
        for tree in [*some_trees(), *alike_trees()]:
            self.assertEqual(fewest_within(tree, 0), tree[0])

    def test_a_length_less_than_each_tie_takes_all_places(self):
        for many in (2, 3, 12, 30):
            for tree in (row_tree(many), star_tree(many), mixed_tree(many, 2)):
                tree = with_lengths(tree, (400, 500, 999))
                self.assertEqual(fewest_within(tree, 399), tree[0])
                self.assertLess(len(fewest_within(tree, 400)), many)

    def test_within_all_ways_the_first_place_does(self):
        for tree in [*some_trees(), *alike_trees()]:
            self.assertEqual(fewest_within(tree, 10 ** 8), tree[0][:1])
            self.assertEqual(fewest_within(tree, farthest(tree)[0]), tree[0][:1])
            reach = max(lengths_from(tree, tree[0][0]))
            self.assertEqual(fewest_within(tree, reach), tree[0][:1])

    def test_the_first_of_several_choices_of_as_few(self):
        # Six in a row: within 1 just one choice of two does.
        row = with_lengths(row_tree(6), (1,))
        p, q, r, s, t, u = row[0]
        self.assertEqual(fewest_within(row, 1), (q, t))
        # Within 2 many do: one of three at either end.
        self.assertEqual(fewest_within(row, 2), (p, s))
        turned = (row[0][::-1], row[1])
        self.assertEqual(fewest_within(turned, 2), (u, r))
        mixed = ((s, u, q, p, t, r), row[1])
        self.assertEqual(fewest_within(mixed, 2), (s, q))
        self.assertEqual(fewest_within(mixed, 1), (q, t))
        # Four in a row: any two of which each is near to one end.
        four = with_lengths(row_tree(4), (1,))
        a, b, c, d = four[0]
        self.assertEqual(fewest_within(four, 1), (a, c))
        self.assertEqual(fewest_within(((b, a, c, d), four[1]), 1), (b, c))
        self.assertEqual(fewest_within(((d, b, a, c), four[1]), 1), (d, b))
        self.assertEqual(fewest_within(((a, d, b, c), four[1]), 1), (a, d))

    def test_small_trees_against_all_choices(self):
        trees = [*all_trees(3), *all_trees(4, (1, 1, 2)), *all_trees(5), *all_trees(5, (1, 1, 1, 1)),
                 *few_trees(4, (1, 2, 10 ** 6))]
        for tree in trees:
            lengths = sorted(set(slow_lengths(tree).values()))
            for length in sorted({0, 1, 2, 3, *lengths, *[some - 1 for some in lengths if some]}):
                self.assertEqual(fewest_within(tree, length), slow_fewest(tree, length))

    def test_trees_of_twelve_places_against_all_choices(self):
        trees = [row_tree(12), star_tree(12), two_arms(names(12), 5, 6, (3, 1)),
                 with_lengths(row_tree(12), (1,)), with_lengths(star_tree(12), (5, 3))]
        for seed in range(12):
            trees.append(mixed_tree(12 - seed % 4, seed))
            trees.append(with_lengths(mixed_tree(12, seed), (1, 2)))
        for tree in trees:
            lengths = sorted(set(slow_lengths(tree).values()))
            for length in [2, *lengths[1::max(1, len(lengths) // 6)], lengths[-1] - 1]:
                self.assertEqual(fewest_within(tree, length), slow_fewest(tree, length))

    def test_however_the_ties_are_told(self):
        for tree in (row_tree(12), star_tree(12), mixed_tree(12, 5), SIX):
            turned = tuple([(other, one, length) for one, other, length in tree[1]])
            for ties in (turned, tree[1][::-1], turned[2:] + tree[1][:2]):
                for length in (1, 4, 9, 30):
                    self.assertEqual(fewest_within((tree[0], ties), length),
                                     fewest_within(tree, length))


class Kinds(unittest.TestCase):
    def check_tree(self, tree):
        self.assertEqual([type(part) for part in (tree, *tree)], [tuple, tuple, tuple])
        for tie in tree[1]:
            self.assertIs(type(tie), tuple)
            self.assertEqual([type(part) for part in tie], [str, str, int])

    def test_kinds(self):
        for tree in (ALONE, TWO, SIX, ROW, star_tree(12)):
            self.assertIs(type(leaves_of(tree)), tuple)
            self.assertIs(type(fewest_within(tree, 5)), tuple)
            self.check_tree(without_leaves(tree))
            told = peeled(tree)
            self.assertIs(type(told), list)
            for part in told:
                self.check_tree(part)

    def test_what_is_handed_in_stays_and_the_same_is_told_again(self):
        tree = mixed_tree(12, 3)
        before = repr(tree)
        told = []
        for _ in range(2):
            told.append((leaves_of(tree), without_leaves(tree), peeled(tree), fewest_within(tree, 9)))
            peeled(SIX)
            fewest_within(ROW, 2)
        self.assertEqual(told[0], told[1])
        self.assertEqual(repr(tree), before)

    def test_what_is_told_may_be_handed_on(self):
        for tree in peeled(mixed_tree(60, 2)):
            self.assertEqual(read_tree(tree_shown(tree)), tree)
            self.assertEqual(KeptTree(tree).farthest_now(), farthest(tree))
            self.assertEqual(leaves_of(tree), slow_leaves(tree))
            self.assertEqual(best_change(tree) is None, len(tree[0]) == 1)
        self.assertEqual(peeled(read_tree(tree_shown(ROW))), peeled(ROW))
        self.assertEqual(leaves_of(without_leaves(ROW)), ("b", "d"))
        self.assertEqual(fewest_within(without_leaves(ROW), 4), ("c",))


if __name__ == "__main__":
    unittest.main()
