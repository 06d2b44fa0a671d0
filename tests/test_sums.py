"""Promises [12] and [13], and what [2], [3] and [5] say of them: sums."""

import unittest

from shapes import alike_trees, mixed_tree, names, row_tree, slow_lengths, slow_pairs
from shapes import some_trees, star_tree

from farplaces.far.sums import least_sums, pairs_by_length, sums_from, total_of
from farplaces.trees.texts import read_tree, tree_shown

ALONE = (("a",), ())
TWO = (("b", "a"), (("a", "b", 7),))
#  d -5- b -1- a -10- e, and c on b by 100
FIVE = (
    ("e", "c", "a", "d", "b"),
    (("c", "b", 100), ("a", "b", 1), ("b", "d", 5), ("a", "e", 10)),
)
# z -3- y -1- x -3- w
ROW = (
    ("w", "z", "x", "y"),
    (("y", "z", 3), ("x", "w", 3), ("x", "y", 1)),
)
# Names of which one is the beginning of another.
NEAR = (
    ("aa", "a", "ab", "aab"),
    (("a", "aab", 3), ("ab", "aa", 4), ("aa", "a", 2)),
)


class Sums(unittest.TestCase):
    def test_worked_out_by_hand(self):
        self.assertEqual(sums_from(TWO), (7, 7))
        self.assertEqual(sums_from(FIVE), (148, 417, 118, 132, 117))
        self.assertEqual(sums_from(ROW), (14, 14, 8, 8))
        self.assertEqual(sums_from(NEAR), (11, 11, 19, 17))

    def test_the_least_worked_out_by_hand(self):
        self.assertEqual(least_sums(TWO), ("b", "a"))
        self.assertEqual(least_sums(FIVE), ("b",))
        self.assertEqual(least_sums(ROW), ("x", "y"))
        self.assertEqual(least_sums(NEAR), ("aa", "a"))

    def test_the_least_are_in_the_order_of_places(self):
        ties = ROW[1]
        turned = tuple([(other, one, length) for one, other, length in ties])
        for told in (ties, ties[::-1], turned):
            self.assertEqual(least_sums((("w", "x", "y", "z"), told)), ("x", "y"))
            self.assertEqual(least_sums((("y", "w", "z", "x"), told)), ("y", "x"))
            self.assertEqual(sums_from((("y", "w", "z", "x"), told)), (8, 14, 14, 8))

    def test_the_total_worked_out_by_hand(self):
        self.assertEqual(total_of(TWO), 7)
        self.assertEqual(total_of(FIVE), 466)
        self.assertEqual(total_of(ROW), 22)
        self.assertEqual(total_of(NEAR), 29)

    def test_a_place_alone(self):
        self.assertEqual(sums_from(ALONE), (0,))
        self.assertEqual(least_sums(ALONE), ("a",))
        self.assertEqual(total_of(ALONE), 0)
        self.assertEqual(pairs_by_length(ALONE), {})

    def test_against_all_ways_one_by_one(self):
        for tree in [*some_trees(), *alike_trees()]:
            places = tree[0]
            lengths = slow_lengths(tree)
            sums = [sum([lengths[one, other] for other in places]) for one in places]
            least = [places[k] for k in range(len(places)) if sums[k] == min(sums)]
            self.assertEqual(sums_from(tree), tuple(sums))
            self.assertEqual(least_sums(tree), tuple(least))
            self.assertEqual(total_of(tree), sum([pair[0] for pair in slow_pairs(tree)]))

    def test_a_long_row(self):
        for many in (30, 60):
            places = names(many)
            ties = tuple([(places[k], places[k - 1], 10 ** 6) for k in range(1, many)])
            tree = (places, ties)
            self.assertEqual(sums_from(tree)[0], many * (many - 1) // 2 * 10 ** 6)
            self.assertEqual(least_sums(tree), (places[many // 2 - 1], places[many // 2]))
            self.assertEqual(total_of(tree), (many ** 3 - many) // 6 * 10 ** 6)

    def test_trees_that_were_read(self):
        tree = read_tree(tree_shown(FIVE))
        self.assertEqual(sums_from(tree), (148, 417, 118, 132, 117))
        self.assertEqual(total_of(tree), 466)


class ByLength(unittest.TestCase):
    def test_worked_out_by_hand(self):
        self.assertEqual(list(pairs_by_length(TWO).items()), [(7, 1)])
        self.assertEqual(list(pairs_by_length(ROW).items()), [(1, 1), (3, 2), (4, 2), (7, 1)])
        self.assertEqual(
            list(pairs_by_length(FIVE).items()),
            [(1, 1), (5, 1), (6, 1), (10, 1), (11, 1), (16, 1), (100, 1), (101, 1), (105, 1),
             (111, 1)])

    def test_against_all_ways_one_by_one(self):
        for tree in [*some_trees(), *alike_trees()]:
            counted = {}
            for length, _, _ in slow_pairs(tree):
                counted[length] = counted.get(length, 0) + 1
            self.assertEqual(list(pairs_by_length(tree).items()), sorted(counted.items()))

    def test_a_told_dict_is_the_asker_s_own(self):
        for tree in (ALONE, ROW, star_tree(30)):
            before = list(pairs_by_length(tree).items())
            told = pairs_by_length(tree)
            told[1] = told.get(1, 0) + 5
            told["a"] = 3
            self.assertEqual(list(pairs_by_length(tree).items()), before)
            told.clear()
            self.assertEqual(list(pairs_by_length(tree).items()), before)
            self.assertIsNot(pairs_by_length(tree), pairs_by_length(tree))

    def test_a_told_dict_stays_as_it_is(self):
        told = pairs_by_length(ROW)
        pairs_by_length(FIVE)
        pairs_by_length(ROW)
        self.assertEqual(list(told.items()), [(1, 1), (3, 2), (4, 2), (7, 1)])


class Kinds(unittest.TestCase):
    def test_kinds(self):
        for tree in (ALONE, TWO, FIVE, row_tree(30), star_tree(30)):
            self.assertIs(type(sums_from(tree)), tuple)
            self.assertEqual({type(found) for found in sums_from(tree)}, {int})
            self.assertIs(type(least_sums(tree)), tuple)
            self.assertEqual({type(place) for place in least_sums(tree)}, {str})
            self.assertIs(type(total_of(tree)), int)
            told = pairs_by_length(tree)
            self.assertIs(type(told), dict)
            for length, many in told.items():
                self.assertIs(type(length), int)
                self.assertIs(type(many), int)

    def test_what_is_handed_in_stays_and_the_same_is_told_again(self):
        tree = mixed_tree(30, 3)
        before = repr(tree)
        told = []
        for _ in range(2):
            told.append((sums_from(tree), least_sums(tree), total_of(tree),
                         list(pairs_by_length(tree).items())))
            sums_from(FIVE)
            pairs_by_length(ROW)
        self.assertEqual(told[0], told[1])
        self.assertEqual(repr(tree), before)


if __name__ == "__main__":
    unittest.main()
